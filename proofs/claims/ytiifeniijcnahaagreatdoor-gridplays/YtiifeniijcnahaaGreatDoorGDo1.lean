/-
  The law's Do: blanks, the cursor, rows scrolled, a copy, nothing.
-/
import Derived.Test.YtiifeniijcnahaaGreatDoorGDo
namespace Go.Proofs.YtiifeniijcnahaaGreatDoor
set_option maxRecDepth 100000
open Go.ChangeShapes Go.WideShapes Go.ChangeAt Go.RowKit
set_option linter.unusedVariables false

set_option maxHeartbeats 3000000 in
theorem do_erase {w : World} {G L M R C : Nat} {g : Gd} (h : Grd w G L M R C g) (hok : GOk g R C) (A : Option Addr) (cap : Nat) (hl : Lns w A g.ls) (hS : Spans w) (ar ac at_ xr xm xn : Int) (xd xf xg xb : Nat) (am : Int) (pf pg pb : Nat) (Al : Option Addr) (nl cl : Nat)  :
    Calls Tryz.prog 10 #[.pointer (some ⟨G, 0, none⟩), .agg #[.slice A R cap, .int .i64 (g.row : Int), .int .i64 (g.col : Int)], .agg #[.int .i64 2, .int .i64 ar, .int .i64 ac, .int .i64 at_, .int .i32 xr, .int .i32 xm, .int .i32 xn, .int .u8 (xd : Int), .int .u8 (xf : Int), .int .u8 (xg : Int), .int .u8 (xb : Int), .int .i32 am, .int .u8 (pf : Int), .int .u8 (pg : Int), .int .u8 (pb : Int), .slice Al nl cl]] w (Did w G L M) := by
  obtain ⟨W0, hW0⟩ : ∃ W0, (((w.alloc (.cells #[.slice A R cap, .int .i64 (g.row : Int), .int .i64 (g.col : Int)] 32)).alloc (.cells #[.int .i64 2, .int .i64 ar, .int .i64 ac, .int .i64 at_, .int .i32 xr, .int .i32 xm, .int .i32 xn, .int .u8 (xd : Int), .int .u8 (xf : Int), .int .u8 (xg : Int), .int .u8 (xb : Int), .int .i32 am, .int .u8 (pf : Int), .int .u8 (pg : Int), .int .u8 (pb : Int), .slice Al nl cl] 43)).alloc (.cells #[.slice none 0 0, .int .i64 0, .int .i64 0] 32)).alloc (.cells #[.int .u8 (pf : Int), .int .u8 (pg : Int), .int .u8 (pb : Int)] 50) = W0 := ⟨_, rfl⟩
  have HB0 : Hid (Below w.heap.size w W0) := by unfold Hid; rw [← hW0]; exact four_new w _ _ _ _
  have HX0 : Hid (Whole W0 w.heap.size 32 [.slice A R cap, .int .i64 (g.row : Int), .int .i64 (g.col : Int)]) := by unfold Hid; rw [← hW0]; exact (((Whole.new w 32 [.slice A R cap, .int .i64 (g.row : Int), .int .i64 (g.col : Int)]).alloc _).alloc _).alloc _
  have HX1 : Hid (Whole W0 (w.heap.size + 1) 43 [.int .i64 2, .int .i64 ar, .int .i64 ac, .int .i64 at_, .int .i32 xr, .int .i32 xm, .int .i32 xn, .int .u8 (xd : Int), .int .u8 (xf : Int), .int .u8 (xg : Int), .int .u8 (xb : Int), .int .i32 am, .int .u8 (pf : Int), .int .u8 (pg : Int), .int .u8 (pb : Int), .slice Al nl cl]) := by unfold Hid; rw [← hW0]; exact ((whole_snd w _ 43 [.int .i64 2, .int .i64 ar, .int .i64 ac, .int .i64 at_, .int .i32 xr, .int .i32 xm, .int .i32 xn, .int .u8 (xd : Int), .int .u8 (xf : Int), .int .u8 (xg : Int), .int .u8 (xb : Int), .int .i32 am, .int .u8 (pf : Int), .int .u8 (pg : Int), .int .u8 (pb : Int), .slice Al nl cl]).alloc _).alloc _
  have HX2 : Hid (Whole W0 (w.heap.size + 2) 32 [.slice none 0 0, .int .i64 0, .int .i64 0]) := by unfold Hid; rw [← hW0]; exact (whole_thd w _ _ 32 [.slice none 0 0, .int .i64 0, .int .i64 0]).alloc _
  have HX3 : Hid (Whole W0 (w.heap.size + 3) 50 [.int .u8 (pf : Int), .int .u8 (pg : Int), .int .u8 (pb : Int)]) := by unfold Hid; rw [← hW0]; exact whole_fth w _ _ _ 50 [.int .u8 (pf : Int), .int .u8 (pg : Int), .int .u8 (pb : Int)]
  have HG0 := hide (h.later HB0.out)
  have HL0 := hide (hl.below HB0.out)
  have HS0 := hide (hS.below HB0.out)
  have HGO := hide hok
  have hR1 := hok.r1
  have hR2 := hok.r2
  have hC1 := hok.c1
  have hC2 := hok.c2
  have ltG := h.ltG
  have ltL := h.ltL
  have ltM := h.ltM
  have HW0 := hide hW0
  obtain ⟨a0, a1, a2, a3, a4, a5, a6, a7, a8, a9, b0, b1, b2, b3, b4, b5, la⟩ := cells16 HX1.out
  obtain ⟨p0, p1, p2, lp⟩ := cells3 HX0.out
  obtain ⟨y0, y1, y2, ly⟩ := cells3 HX3.out
  clear hW0 h hl hok hS
  have HOK := hide (HGO.out.erase ar ac at_ ⟨pf, pg, pb⟩)
  go_enter Tryz.func10, Tryz.ntmps10
  go_wp2_with fail
  rw [HW0.out]
  refine (gerase_any HG0.out hC2 HS0.out ar ac at_ pf pg pb).mono ?_
  rintro e w1 ⟨rfl, hg, ht⟩
  have HG1 := hide hg
  have HL1 := hide (HL0.out.turn HG0.out ht)
  have HT1 := hide (Trn.ofB HB0.out ht)
  have HX0b := hide (ht.whole HX0.out (by omega) (by omega) (by omega))
  have HX1b := hide (ht.whole HX1.out (by omega) (by omega) (by omega))
  have HX2b := hide (ht.whole HX2.out (by omega) (by omega) (by omega))
  have HX3b := hide (ht.whole HX3.out (by omega) (by omega) (by omega))
  clear hg ht
  clear a0 a1 a2 a3 a4 a5 a6 a7 a8 a9 b0 b1 b2 b3 b4 b5 la p0 p1 p2 lp y0 y1 y2 ly
  obtain ⟨a0, a1, a2, a3, a4, a5, a6, a7, a8, a9, b0, b1, b2, b3, b4, b5, la⟩ := cells16 HX1b.out
  obtain ⟨p0, p1, p2, lp⟩ := cells3 HX0b.out
  obtain ⟨y0, y1, y2, ly⟩ := cells3 HX3b.out
  go_wp2_with fail
  refine (rgerase_any A R C cap g w1 HL1.out HGO.out ar ac at_ pf pg pb).mono ?_
  rintro e w2 ⟨A2, cap2, rfl, hl, hb⟩
  have HLz := hide hl
  have HGz := hide (HG1.out.later hb)
  have HTz := hide (HT1.out.thenB hb)
  have HX2z := hide (HX2b.out.later hb)
  clear hl hb
  clear a0 a1 a2 a3 a4 a5 a6 a7 a8 a9 b0 b1 b2 b3 b4 b5 la p0 p1 p2 lp y0 y1 y2 ly
  obtain ⟨z0, z1, z2, lz⟩ := cells3 HX2z.out
  have hzf := HX2z.out.frozen
  go_wp2
  refine retG3 Tryz.results10 rfl rfl rfl rfl (put3 HX2z.out _ _ _) ?_
  exact did_end HGz.out HLz.out HOK.out HTz.out (.inl rfl) (.inl rfl) (.inl rfl) HX2z.out (by omega) _ _ _
set_option maxHeartbeats 3000000 in
theorem do_move {w : World} {G L M R C : Nat} {g : Gd} (h : Grd w G L M R C g) (hok : GOk g R C) (A : Option Addr) (cap : Nat) (hl : Lns w A g.ls) (hS : Spans w) (ar ac at_ xr xm xn : Int) (xd xf xg xb : Nat) (am : Int) (pf pg pb : Nat) (Al : Option Addr) (nl cl : Nat)  :
    Calls Tryz.prog 10 #[.pointer (some ⟨G, 0, none⟩), .agg #[.slice A R cap, .int .i64 (g.row : Int), .int .i64 (g.col : Int)], .agg #[.int .i64 4, .int .i64 ar, .int .i64 ac, .int .i64 at_, .int .i32 xr, .int .i32 xm, .int .i32 xn, .int .u8 (xd : Int), .int .u8 (xf : Int), .int .u8 (xg : Int), .int .u8 (xb : Int), .int .i32 am, .int .u8 (pf : Int), .int .u8 (pg : Int), .int .u8 (pb : Int), .slice Al nl cl]] w (Did w G L M) := by
  obtain ⟨W0, hW0⟩ : ∃ W0, (((w.alloc (.cells #[.slice A R cap, .int .i64 (g.row : Int), .int .i64 (g.col : Int)] 32)).alloc (.cells #[.int .i64 4, .int .i64 ar, .int .i64 ac, .int .i64 at_, .int .i32 xr, .int .i32 xm, .int .i32 xn, .int .u8 (xd : Int), .int .u8 (xf : Int), .int .u8 (xg : Int), .int .u8 (xb : Int), .int .i32 am, .int .u8 (pf : Int), .int .u8 (pg : Int), .int .u8 (pb : Int), .slice Al nl cl] 43)).alloc (.cells #[.slice none 0 0, .int .i64 0, .int .i64 0] 32)).alloc (.cells #[.int .u8 (pf : Int), .int .u8 (pg : Int), .int .u8 (pb : Int)] 50) = W0 := ⟨_, rfl⟩
  have HB0 : Hid (Below w.heap.size w W0) := by unfold Hid; rw [← hW0]; exact four_new w _ _ _ _
  have HX0 : Hid (Whole W0 w.heap.size 32 [.slice A R cap, .int .i64 (g.row : Int), .int .i64 (g.col : Int)]) := by unfold Hid; rw [← hW0]; exact (((Whole.new w 32 [.slice A R cap, .int .i64 (g.row : Int), .int .i64 (g.col : Int)]).alloc _).alloc _).alloc _
  have HX1 : Hid (Whole W0 (w.heap.size + 1) 43 [.int .i64 4, .int .i64 ar, .int .i64 ac, .int .i64 at_, .int .i32 xr, .int .i32 xm, .int .i32 xn, .int .u8 (xd : Int), .int .u8 (xf : Int), .int .u8 (xg : Int), .int .u8 (xb : Int), .int .i32 am, .int .u8 (pf : Int), .int .u8 (pg : Int), .int .u8 (pb : Int), .slice Al nl cl]) := by unfold Hid; rw [← hW0]; exact ((whole_snd w _ 43 [.int .i64 4, .int .i64 ar, .int .i64 ac, .int .i64 at_, .int .i32 xr, .int .i32 xm, .int .i32 xn, .int .u8 (xd : Int), .int .u8 (xf : Int), .int .u8 (xg : Int), .int .u8 (xb : Int), .int .i32 am, .int .u8 (pf : Int), .int .u8 (pg : Int), .int .u8 (pb : Int), .slice Al nl cl]).alloc _).alloc _
  have HX2 : Hid (Whole W0 (w.heap.size + 2) 32 [.slice none 0 0, .int .i64 0, .int .i64 0]) := by unfold Hid; rw [← hW0]; exact (whole_thd w _ _ 32 [.slice none 0 0, .int .i64 0, .int .i64 0]).alloc _
  have HX3 : Hid (Whole W0 (w.heap.size + 3) 50 [.int .u8 (pf : Int), .int .u8 (pg : Int), .int .u8 (pb : Int)]) := by unfold Hid; rw [← hW0]; exact whole_fth w _ _ _ 50 [.int .u8 (pf : Int), .int .u8 (pg : Int), .int .u8 (pb : Int)]
  have HG0 := hide (h.later HB0.out)
  have HL0 := hide (hl.below HB0.out)
  have HS0 := hide (hS.below HB0.out)
  have HGO := hide hok
  have hR1 := hok.r1
  have hR2 := hok.r2
  have hC1 := hok.c1
  have hC2 := hok.c2
  have ltG := h.ltG
  have ltL := h.ltL
  have ltM := h.ltM
  have HW0 := hide hW0
  obtain ⟨a0, a1, a2, a3, a4, a5, a6, a7, a8, a9, b0, b1, b2, b3, b4, b5, la⟩ := cells16 HX1.out
  obtain ⟨p0, p1, p2, lp⟩ := cells3 HX0.out
  obtain ⟨y0, y1, y2, ly⟩ := cells3 HX3.out
  clear hW0 h hl hok hS
  have HOK := hide (HGO.out.move ar ac)
  have HLen := hide HGO.out.len
  have HC0 := hide (HGO.out.each 0 hR1).1
  go_enter Tryz.func10, Tryz.ntmps10
  go_wp2_with fail
  rw [HW0.out]
  refine (move_any HG0.out hR1 hR2 hC1 hC2 ar ac).mono ?_
  rintro e w1 ⟨rfl, hg, ho⟩
  have ht : Trn G L M W0 w1 := Trn.of_onlyG ho
  have HG1 := hide hg
  have HL1 := hide (HL0.out.turn HG0.out ht)
  have HT1 := hide (Trn.ofB HB0.out ht)
  have HX0b := hide (ht.whole HX0.out (by omega) (by omega) (by omega))
  have HX1b := hide (ht.whole HX1.out (by omega) (by omega) (by omega))
  have HX2b := hide (ht.whole HX2.out (by omega) (by omega) (by omega))
  have HX3b := hide (ht.whole HX3.out (by omega) (by omega) (by omega))
  clear hg ht ho
  clear a0 a1 a2 a3 a4 a5 a6 a7 a8 a9 b0 b1 b2 b3 b4 b5 la p0 p1 p2 lp y0 y1 y2 ly
  obtain ⟨a0, a1, a2, a3, a4, a5, a6, a7, a8, a9, b0, b1, b2, b3, b4, b5, la⟩ := cells16 HX1b.out
  obtain ⟨p0, p1, p2, lp⟩ := cells3 HX0b.out
  obtain ⟨y0, y1, y2, ly⟩ := cells3 HX3b.out
  go_wp2_with fail
  refine (rgmove_any A R C cap g w1 HL1.out HLen.out hR1 hR2 hC1 hC2 HC0.out ar ac).mono ?_
  rintro e w2 ⟨A2, cap2, rfl, hl, hb⟩
  have HLz := hide hl
  have HGz := hide (HG1.out.later hb)
  have HTz := hide (HT1.out.thenB hb)
  have HX2z := hide (HX2b.out.later hb)
  clear hl hb
  clear a0 a1 a2 a3 a4 a5 a6 a7 a8 a9 b0 b1 b2 b3 b4 b5 la p0 p1 p2 lp y0 y1 y2 ly
  obtain ⟨z0, z1, z2, lz⟩ := cells3 HX2z.out
  have hzf := HX2z.out.frozen
  go_wp2
  refine retG3 Tryz.results10 rfl rfl rfl rfl (put3 HX2z.out _ _ _) ?_
  exact did_end HGz.out HLz.out HOK.out HTz.out (.inl rfl) (.inl rfl) (.inl rfl) HX2z.out (by omega) _ _ _
set_option maxHeartbeats 3000000 in
theorem do_scroll {w : World} {G L M R C : Nat} {g : Gd} (h : Grd w G L M R C g) (hok : GOk g R C) (A : Option Addr) (cap : Nat) (hl : Lns w A g.ls) (hS : Spans w) (ar ac at_ xr xm xn : Int) (xd xf xg xb : Nat) (am : Int) (pf pg pb : Nat) (Al : Option Addr) (nl cl : Nat)  :
    Calls Tryz.prog 10 #[.pointer (some ⟨G, 0, none⟩), .agg #[.slice A R cap, .int .i64 (g.row : Int), .int .i64 (g.col : Int)], .agg #[.int .i64 5, .int .i64 ar, .int .i64 ac, .int .i64 at_, .int .i32 xr, .int .i32 xm, .int .i32 xn, .int .u8 (xd : Int), .int .u8 (xf : Int), .int .u8 (xg : Int), .int .u8 (xb : Int), .int .i32 am, .int .u8 (pf : Int), .int .u8 (pg : Int), .int .u8 (pb : Int), .slice Al nl cl]] w (Did w G L M) := by
  obtain ⟨W0, hW0⟩ : ∃ W0, (((w.alloc (.cells #[.slice A R cap, .int .i64 (g.row : Int), .int .i64 (g.col : Int)] 32)).alloc (.cells #[.int .i64 5, .int .i64 ar, .int .i64 ac, .int .i64 at_, .int .i32 xr, .int .i32 xm, .int .i32 xn, .int .u8 (xd : Int), .int .u8 (xf : Int), .int .u8 (xg : Int), .int .u8 (xb : Int), .int .i32 am, .int .u8 (pf : Int), .int .u8 (pg : Int), .int .u8 (pb : Int), .slice Al nl cl] 43)).alloc (.cells #[.slice none 0 0, .int .i64 0, .int .i64 0] 32)).alloc (.cells #[.int .u8 (pf : Int), .int .u8 (pg : Int), .int .u8 (pb : Int)] 50) = W0 := ⟨_, rfl⟩
  have HB0 : Hid (Below w.heap.size w W0) := by unfold Hid; rw [← hW0]; exact four_new w _ _ _ _
  have HX0 : Hid (Whole W0 w.heap.size 32 [.slice A R cap, .int .i64 (g.row : Int), .int .i64 (g.col : Int)]) := by unfold Hid; rw [← hW0]; exact (((Whole.new w 32 [.slice A R cap, .int .i64 (g.row : Int), .int .i64 (g.col : Int)]).alloc _).alloc _).alloc _
  have HX1 : Hid (Whole W0 (w.heap.size + 1) 43 [.int .i64 5, .int .i64 ar, .int .i64 ac, .int .i64 at_, .int .i32 xr, .int .i32 xm, .int .i32 xn, .int .u8 (xd : Int), .int .u8 (xf : Int), .int .u8 (xg : Int), .int .u8 (xb : Int), .int .i32 am, .int .u8 (pf : Int), .int .u8 (pg : Int), .int .u8 (pb : Int), .slice Al nl cl]) := by unfold Hid; rw [← hW0]; exact ((whole_snd w _ 43 [.int .i64 5, .int .i64 ar, .int .i64 ac, .int .i64 at_, .int .i32 xr, .int .i32 xm, .int .i32 xn, .int .u8 (xd : Int), .int .u8 (xf : Int), .int .u8 (xg : Int), .int .u8 (xb : Int), .int .i32 am, .int .u8 (pf : Int), .int .u8 (pg : Int), .int .u8 (pb : Int), .slice Al nl cl]).alloc _).alloc _
  have HX2 : Hid (Whole W0 (w.heap.size + 2) 32 [.slice none 0 0, .int .i64 0, .int .i64 0]) := by unfold Hid; rw [← hW0]; exact (whole_thd w _ _ 32 [.slice none 0 0, .int .i64 0, .int .i64 0]).alloc _
  have HX3 : Hid (Whole W0 (w.heap.size + 3) 50 [.int .u8 (pf : Int), .int .u8 (pg : Int), .int .u8 (pb : Int)]) := by unfold Hid; rw [← hW0]; exact whole_fth w _ _ _ 50 [.int .u8 (pf : Int), .int .u8 (pg : Int), .int .u8 (pb : Int)]
  have HG0 := hide (h.later HB0.out)
  have HL0 := hide (hl.below HB0.out)
  have HS0 := hide (hS.below HB0.out)
  have HGO := hide hok
  have hR1 := hok.r1
  have hR2 := hok.r2
  have hC1 := hok.c1
  have hC2 := hok.c2
  have ltG := h.ltG
  have ltL := h.ltL
  have ltM := h.ltM
  have HW0 := hide hW0
  obtain ⟨a0, a1, a2, a3, a4, a5, a6, a7, a8, a9, b0, b1, b2, b3, b4, b5, la⟩ := cells16 HX1.out
  obtain ⟨p0, p1, p2, lp⟩ := cells3 HX0.out
  obtain ⟨y0, y1, y2, ly⟩ := cells3 HX3.out
  clear hW0 h hl hok hS
  have HOK := hide (HGO.out.scroll ar ⟨pf, pg, pb⟩)
  go_enter Tryz.func10, Tryz.ntmps10
  go_wp2_with fail
  rw [HW0.out]
  refine (scroll_any HG0.out hR1 hR2 hC1 hC2 HS0.out ar pf pg pb).mono ?_
  rintro e w1 ⟨rfl, L2, hg, ht, hL2⟩
  have HG1 := hide hg
  have HL1 := hide (HL0.out.turn HG0.out ht)
  have HT1 := hide (Trn.ofB HB0.out ht)
  have HL2 : Hid (L2 = L ∨ w.heap.size ≤ L2) := by
    unfold Hid
    rcases hL2 with q | q
    · exact .inl q
    · exact .inr (Nat.le_trans HB0.out.size q)
  have HX0b := hide (ht.whole HX0.out (by omega) (by omega) (by omega))
  have HX1b := hide (ht.whole HX1.out (by omega) (by omega) (by omega))
  have HX2b := hide (ht.whole HX2.out (by omega) (by omega) (by omega))
  have HX3b := hide (ht.whole HX3.out (by omega) (by omega) (by omega))
  clear hg ht hL2
  clear a0 a1 a2 a3 a4 a5 a6 a7 a8 a9 b0 b1 b2 b3 b4 b5 la p0 p1 p2 lp y0 y1 y2 ly
  obtain ⟨a0, a1, a2, a3, a4, a5, a6, a7, a8, a9, b0, b1, b2, b3, b4, b5, la⟩ := cells16 HX1b.out
  obtain ⟨p0, p1, p2, lp⟩ := cells3 HX0b.out
  obtain ⟨y0, y1, y2, ly⟩ := cells3 HX3b.out
  go_wp2_with fail
  refine (rgscroll_any A R C cap g w1 HL1.out HGO.out ar pf pg pb).mono ?_
  rintro e w2 ⟨A2, cap2, rfl, hl, hb⟩
  have HLz := hide hl
  have HGz := hide (HG1.out.later hb)
  have HTz := hide (HT1.out.thenB hb)
  have HX2z := hide (HX2b.out.later hb)
  clear hl hb
  clear a0 a1 a2 a3 a4 a5 a6 a7 a8 a9 b0 b1 b2 b3 b4 b5 la p0 p1 p2 lp y0 y1 y2 ly
  obtain ⟨z0, z1, z2, lz⟩ := cells3 HX2z.out
  have hzf := HX2z.out.frozen
  go_wp2
  refine retG3 Tryz.results10 rfl rfl rfl rfl (put3 HX2z.out _ _ _) ?_
  exact did_end HGz.out HLz.out HOK.out HTz.out (.inl rfl) (HL2.out) (.inl rfl) HX2z.out (by omega) _ _ _
set_option maxHeartbeats 3000000 in
theorem do_other {w : World} {G L M R C : Nat} {g : Gd} (h : Grd w G L M R C g) (hok : GOk g R C) (A : Option Addr) (cap : Nat) (hl : Lns w A g.ls) (hS : Spans w) (ar ac at_ xr xm xn : Int) (xd xf xg xb : Nat) (am : Int) (pf pg pb : Nat) (Al : Option Addr) (nl cl : Nat) (ak : Int) (e0 : (ak == 0) = false) (e1 : (ak == 1) = false) (e2 : (ak == 2) = false) (e3 : (ak == 3) = false) (e4 : (ak == 4) = false) (e5 : (ak == 5) = false) (e6 : (ak == 6) = false) (e7 : (ak == 7) = false) :
    Calls Tryz.prog 10 #[.pointer (some ⟨G, 0, none⟩), .agg #[.slice A R cap, .int .i64 (g.row : Int), .int .i64 (g.col : Int)], .agg #[.int .i64 ak, .int .i64 ar, .int .i64 ac, .int .i64 at_, .int .i32 xr, .int .i32 xm, .int .i32 xn, .int .u8 (xd : Int), .int .u8 (xf : Int), .int .u8 (xg : Int), .int .u8 (xb : Int), .int .i32 am, .int .u8 (pf : Int), .int .u8 (pg : Int), .int .u8 (pb : Int), .slice Al nl cl]] w (Did w G L M) := by
  obtain ⟨W0, hW0⟩ : ∃ W0, (((w.alloc (.cells #[.slice A R cap, .int .i64 (g.row : Int), .int .i64 (g.col : Int)] 32)).alloc (.cells #[.int .i64 ak, .int .i64 ar, .int .i64 ac, .int .i64 at_, .int .i32 xr, .int .i32 xm, .int .i32 xn, .int .u8 (xd : Int), .int .u8 (xf : Int), .int .u8 (xg : Int), .int .u8 (xb : Int), .int .i32 am, .int .u8 (pf : Int), .int .u8 (pg : Int), .int .u8 (pb : Int), .slice Al nl cl] 43)).alloc (.cells #[.slice none 0 0, .int .i64 0, .int .i64 0] 32)).alloc (.cells #[.int .u8 (pf : Int), .int .u8 (pg : Int), .int .u8 (pb : Int)] 50) = W0 := ⟨_, rfl⟩
  have HB0 : Hid (Below w.heap.size w W0) := by unfold Hid; rw [← hW0]; exact four_new w _ _ _ _
  have HX0 : Hid (Whole W0 w.heap.size 32 [.slice A R cap, .int .i64 (g.row : Int), .int .i64 (g.col : Int)]) := by unfold Hid; rw [← hW0]; exact (((Whole.new w 32 [.slice A R cap, .int .i64 (g.row : Int), .int .i64 (g.col : Int)]).alloc _).alloc _).alloc _
  have HX1 : Hid (Whole W0 (w.heap.size + 1) 43 [.int .i64 ak, .int .i64 ar, .int .i64 ac, .int .i64 at_, .int .i32 xr, .int .i32 xm, .int .i32 xn, .int .u8 (xd : Int), .int .u8 (xf : Int), .int .u8 (xg : Int), .int .u8 (xb : Int), .int .i32 am, .int .u8 (pf : Int), .int .u8 (pg : Int), .int .u8 (pb : Int), .slice Al nl cl]) := by unfold Hid; rw [← hW0]; exact ((whole_snd w _ 43 [.int .i64 ak, .int .i64 ar, .int .i64 ac, .int .i64 at_, .int .i32 xr, .int .i32 xm, .int .i32 xn, .int .u8 (xd : Int), .int .u8 (xf : Int), .int .u8 (xg : Int), .int .u8 (xb : Int), .int .i32 am, .int .u8 (pf : Int), .int .u8 (pg : Int), .int .u8 (pb : Int), .slice Al nl cl]).alloc _).alloc _
  have HX2 : Hid (Whole W0 (w.heap.size + 2) 32 [.slice none 0 0, .int .i64 0, .int .i64 0]) := by unfold Hid; rw [← hW0]; exact (whole_thd w _ _ 32 [.slice none 0 0, .int .i64 0, .int .i64 0]).alloc _
  have HX3 : Hid (Whole W0 (w.heap.size + 3) 50 [.int .u8 (pf : Int), .int .u8 (pg : Int), .int .u8 (pb : Int)]) := by unfold Hid; rw [← hW0]; exact whole_fth w _ _ _ 50 [.int .u8 (pf : Int), .int .u8 (pg : Int), .int .u8 (pb : Int)]
  have HG0 := hide (h.later HB0.out)
  have HL0 := hide (hl.below HB0.out)
  have HS0 := hide (hS.below HB0.out)
  have HGO := hide hok
  have hR1 := hok.r1
  have hR2 := hok.r2
  have hC1 := hok.c1
  have hC2 := hok.c2
  have ltG := h.ltG
  have ltL := h.ltL
  have ltM := h.ltM
  have HW0 := hide hW0
  obtain ⟨a0, a1, a2, a3, a4, a5, a6, a7, a8, a9, b0, b1, b2, b3, b4, b5, la⟩ := cells16 HX1.out
  obtain ⟨p0, p1, p2, lp⟩ := cells3 HX0.out
  obtain ⟨y0, y1, y2, ly⟩ := cells3 HX3.out
  clear hW0 h hl hok hS
  go_enter Tryz.func10, Tryz.ntmps10
  obtain ⟨z0, z1, z2, lz⟩ := cells3 HX2.out
  have hzf := HX2.out.frozen
  go_wp2
  rw [HW0.out]
  refine wp_region_chainL (fun _ => True) 3 [(2, 0), (2, 2), (1, 1), (3, 3), (3, 4)] (by kernel_rfl) (by kernel_rfl) (by kernel_rfl) (fun _ _ _ _ _ h => h) ?_ ?_
  · exact trivial
  refine chainL_pure (v := ?_) (by simp only [List.getElem?_toArray, List.getElem?_cons_zero]; rfl) (by rfl) (fun w => ?_) ?_
  rotate_left
  · go_simp <;> with_reducible rfl
  simp only [Act.put, List.setIfInBounds_toArray, List.set_cons_zero, List.set_cons_succ]
  refine chainL_pure (v := ?_) (by simp only [List.getElem?_toArray, List.getElem?_cons_zero, List.getElem?_cons_succ]; rfl) (by rfl) (fun w => ?_) ?_
  rotate_left
  · go_simp <;> with_reducible rfl
  simp only [Act.put, List.setIfInBounds_toArray, List.set_cons_zero, List.set_cons_succ]
  refine chainL_alone (by simp only [List.getElem?_toArray, List.getElem?_cons_zero, List.getElem?_cons_succ]; rfl) ?_
  intro K hK
  go_wp2
  refine hK.out _ _ (trivial) ?_
  clear hK K
  refine chainL_late (by simp only [List.getElem?_toArray, List.getElem?_cons_zero, List.getElem?_cons_succ]; rfl) ?_
  intro K hK
  go_wp2
  refine hK.out _ _ ?_
  clear hK K
  refine chainL_late (by simp only [List.getElem?_toArray, List.getElem?_cons_zero, List.getElem?_cons_succ]; rfl) ?_
  intro K hK
  go_wp2
  refine hK.out _ _ ?_
  clear hK K
  refine chainL_nil ?_
  go_wp2
  refine retG3 Tryz.results10 rfl rfl rfl rfl (put3 HX2.out _ _ _).drew ?_
  exact Did.drew (did_end HG0.out HL0.out HGO.out (Trn.of_below HB0.out) (.inl rfl) (.inl rfl) (.inl rfl) HX2.out (by omega) _ _ _)
set_option maxHeartbeats 3000000 in
theorem do_copy {w : World} {G L M R C : Nat} {g : Gd} (h : Grd w G L M R C g) (hok : GOk g R C) (A : Option Addr) (cap : Nat) (hl : Lns w A g.ls) (hS : Spans w) (ar ac at_ xr xm xn : Int) (xd xf xg xb : Nat) (am : Int) (pf pg pb : Nat) (Al : Option Addr) (nl cl : Nat)  :
    Calls Tryz.prog 10 #[.pointer (some ⟨G, 0, none⟩), .agg #[.slice A R cap, .int .i64 (g.row : Int), .int .i64 (g.col : Int)], .agg #[.int .i64 7, .int .i64 ar, .int .i64 ac, .int .i64 at_, .int .i32 xr, .int .i32 xm, .int .i32 xn, .int .u8 (xd : Int), .int .u8 (xf : Int), .int .u8 (xg : Int), .int .u8 (xb : Int), .int .i32 am, .int .u8 (pf : Int), .int .u8 (pg : Int), .int .u8 (pb : Int), .slice Al nl cl]] w (Did w G L M) := by
  obtain ⟨W0, hW0⟩ : ∃ W0, (((w.alloc (.cells #[.slice A R cap, .int .i64 (g.row : Int), .int .i64 (g.col : Int)] 32)).alloc (.cells #[.int .i64 7, .int .i64 ar, .int .i64 ac, .int .i64 at_, .int .i32 xr, .int .i32 xm, .int .i32 xn, .int .u8 (xd : Int), .int .u8 (xf : Int), .int .u8 (xg : Int), .int .u8 (xb : Int), .int .i32 am, .int .u8 (pf : Int), .int .u8 (pg : Int), .int .u8 (pb : Int), .slice Al nl cl] 43)).alloc (.cells #[.slice none 0 0, .int .i64 0, .int .i64 0] 32)).alloc (.cells #[.int .u8 (pf : Int), .int .u8 (pg : Int), .int .u8 (pb : Int)] 50) = W0 := ⟨_, rfl⟩
  have HB0 : Hid (Below w.heap.size w W0) := by unfold Hid; rw [← hW0]; exact four_new w _ _ _ _
  have HX0 : Hid (Whole W0 w.heap.size 32 [.slice A R cap, .int .i64 (g.row : Int), .int .i64 (g.col : Int)]) := by unfold Hid; rw [← hW0]; exact (((Whole.new w 32 [.slice A R cap, .int .i64 (g.row : Int), .int .i64 (g.col : Int)]).alloc _).alloc _).alloc _
  have HX1 : Hid (Whole W0 (w.heap.size + 1) 43 [.int .i64 7, .int .i64 ar, .int .i64 ac, .int .i64 at_, .int .i32 xr, .int .i32 xm, .int .i32 xn, .int .u8 (xd : Int), .int .u8 (xf : Int), .int .u8 (xg : Int), .int .u8 (xb : Int), .int .i32 am, .int .u8 (pf : Int), .int .u8 (pg : Int), .int .u8 (pb : Int), .slice Al nl cl]) := by unfold Hid; rw [← hW0]; exact ((whole_snd w _ 43 [.int .i64 7, .int .i64 ar, .int .i64 ac, .int .i64 at_, .int .i32 xr, .int .i32 xm, .int .i32 xn, .int .u8 (xd : Int), .int .u8 (xf : Int), .int .u8 (xg : Int), .int .u8 (xb : Int), .int .i32 am, .int .u8 (pf : Int), .int .u8 (pg : Int), .int .u8 (pb : Int), .slice Al nl cl]).alloc _).alloc _
  have HX2 : Hid (Whole W0 (w.heap.size + 2) 32 [.slice none 0 0, .int .i64 0, .int .i64 0]) := by unfold Hid; rw [← hW0]; exact (whole_thd w _ _ 32 [.slice none 0 0, .int .i64 0, .int .i64 0]).alloc _
  have HX3 : Hid (Whole W0 (w.heap.size + 3) 50 [.int .u8 (pf : Int), .int .u8 (pg : Int), .int .u8 (pb : Int)]) := by unfold Hid; rw [← hW0]; exact whole_fth w _ _ _ 50 [.int .u8 (pf : Int), .int .u8 (pg : Int), .int .u8 (pb : Int)]
  have HG0 := hide (h.later HB0.out)
  have HL0 := hide (hl.below HB0.out)
  have HS0 := hide (hS.below HB0.out)
  have HGO := hide hok
  have hR1 := hok.r1
  have hR2 := hok.r2
  have hC1 := hok.c1
  have hC2 := hok.c2
  have ltG := h.ltG
  have ltL := h.ltL
  have ltM := h.ltM
  have HW0 := hide hW0
  obtain ⟨a0, a1, a2, a3, a4, a5, a6, a7, a8, a9, b0, b1, b2, b3, b4, b5, la⟩ := cells16 HX1.out
  obtain ⟨p0, p1, p2, lp⟩ := cells3 HX0.out
  obtain ⟨y0, y1, y2, ly⟩ := cells3 HX3.out
  clear hW0 h hl hok hS
  go_enter Tryz.func10, Tryz.ntmps10
  go_wp2_with fail
  rw [HW0.out]
  refine (copy_any HG0.out hR1 hR2 hC1 hC2).mono ?_
  rintro e w1 ⟨G2, L2, M2, rfl, hg, hb, n1, n2, n3⟩
  have HG1 := hide hg
  have HGO1 := hide (HG0.out.later hb)
  have HL1 := hide (HL0.out.below hb)
  have HT1 := hide (Trn.of_below (G := G) (L := L) (M := M) (HB0.out.trans (hb.mono HB0.out.size)))
  have HN : Hid ((w.heap.size ≤ G2 ∧ w.heap.size ≤ L2) ∧ w.heap.size ≤ M2) := ⟨⟨Nat.le_trans HB0.out.size n1, Nat.le_trans HB0.out.size n2⟩, Nat.le_trans HB0.out.size n3⟩
  have HSS := hide (sameG_self g)
  have HX0b := hide (HX0.out.later hb)
  have HX1b := hide (HX1.out.later hb)
  have HX2b := hide (HX2.out.later hb)
  have HX3b := hide (HX3.out.later hb)
  clear hg hb n1 n2 n3
  clear a0 a1 a2 a3 a4 a5 a6 a7 a8 a9 b0 b1 b2 b3 b4 b5 la p0 p1 p2 lp y0 y1 y2 ly
  obtain ⟨a0, a1, a2, a3, a4, a5, a6, a7, a8, a9, b0, b1, b2, b3, b4, b5, la⟩ := cells16 HX1b.out
  obtain ⟨p0, p1, p2, lp⟩ := cells3 HX0b.out
  obtain ⟨y0, y1, y2, ly⟩ := cells3 HX3b.out
  go_wp2
  refine wp_region_chainL (fun w' => Below w1.heap.size w1 w') 10 [(2, 0), (2, 2), (2, 3), (2, 4), (2, 5), (2, 6), (0, 1), (1, 7), (2, 9), (2, 8), (3, 10), (3, 11)] (by kernel_rfl) (by kernel_rfl) (by kernel_rfl) (fun _ _ _ _ _ h => h) ?_ ?_
  · exact (Below.refl _ _).drewN 1
  refine chainL_pure (v := ?_) (by simp only [List.getElem?_toArray, List.getElem?_cons_zero]; rfl) (by rfl) (fun w => ?_) ?_
  rotate_left
  · go_simp <;> with_reducible rfl
  simp only [Act.put, List.setIfInBounds_toArray, List.set_cons_zero, List.set_cons_succ]
  refine chainL_pure (v := ?_) (by simp only [List.getElem?_toArray, List.getElem?_cons_zero, List.getElem?_cons_succ]; rfl) (by rfl) (fun w => ?_) ?_
  rotate_left
  · go_simp <;> with_reducible rfl
  simp only [Act.put, List.setIfInBounds_toArray, List.set_cons_zero, List.set_cons_succ]
  refine chainL_pure (v := ?_) (by simp only [List.getElem?_toArray, List.getElem?_cons_zero, List.getElem?_cons_succ]; rfl) (by rfl) (fun w => ?_) ?_
  rotate_left
  · go_simp <;> with_reducible rfl
  simp only [Act.put, List.setIfInBounds_toArray, List.set_cons_zero, List.set_cons_succ]
  refine chainL_pure (v := ?_) (by simp only [List.getElem?_toArray, List.getElem?_cons_zero, List.getElem?_cons_succ]; rfl) (by rfl) (fun w => ?_) ?_
  rotate_left
  · go_simp <;> with_reducible rfl
  simp only [Act.put, List.setIfInBounds_toArray, List.set_cons_zero, List.set_cons_succ]
  refine chainL_pure (v := ?_) (by simp only [List.getElem?_toArray, List.getElem?_cons_zero, List.getElem?_cons_succ]; rfl) (by rfl) (fun w => ?_) ?_
  rotate_left
  · go_simp <;> with_reducible rfl
  simp only [Act.put, List.setIfInBounds_toArray, List.set_cons_zero, List.set_cons_succ]
  refine chainL_pure (v := ?_) (by simp only [List.getElem?_toArray, List.getElem?_cons_zero, List.getElem?_cons_succ]; rfl) (by rfl) (fun w => ?_) ?_
  rotate_left
  · go_simp <;> with_reducible rfl
  simp only [Act.put, List.setIfInBounds_toArray, List.set_cons_zero, List.set_cons_succ]
  refine chainL_take (v := ?_) (by simp only [List.getElem?_toArray, List.getElem?_cons_zero, List.getElem?_cons_succ]; rfl) (by rfl) (fun w hS => ?_) ?_
  rotate_left
  · obtain ⟨f0, f1, f2, -⟩ := cells3 (HX0b.out.later hS); go_simp <;> with_reducible rfl
  simp only [Act.put, List.setIfInBounds_toArray, List.set_cons_zero, List.set_cons_succ]
  refine chainL_alone (by simp only [List.getElem?_toArray, List.getElem?_cons_zero, List.getElem?_cons_succ]; rfl) ?_
  intro K hK
  go_wp2_with fail
  refine (gsame_any (HG1.out.later ((Below.refl _ _).drewN 1)) (HGO1.out.later ((Below.refl _ _).drewN 1)) hR2 hR2 hC2).mono ?_
  rintro e k1 ⟨rfl, hb⟩
  rw [HSS.out]
  have Bk1 : Below w1.heap.size w1 k1 := ((Below.refl w1.heap.size w1).drewN 1).trans hb
  have HX2z := hide (HX2b.out.later Bk1)
  have HGz := hide (HG1.out.later Bk1)
  have HLz := hide (HL1.out.below Bk1)
  have HTz := hide (HT1.out.thenB Bk1)
  clear hb
  clear a0 a1 a2 a3 a4 a5 a6 a7 a8 a9 b0 b1 b2 b3 b4 b5 la p0 p1 p2 lp y0 y1 y2 ly
  obtain ⟨z0, z1, z2, lz⟩ := cells3 HX2z.out
  have hzf := HX2z.out.frozen
  go_wp2
  refine hK.out _ _ (Bk1) ?_
  clear hK K
  refine chainL_pure (v := ?_) (by simp only [List.getElem?_toArray, List.getElem?_cons_zero, List.getElem?_cons_succ]; rfl) (by rfl) (fun w => ?_) ?_
  rotate_left
  · go_simp <;> with_reducible rfl
  simp only [Act.put, List.setIfInBounds_toArray, List.set_cons_zero, List.set_cons_succ]
  refine chainL_pure (v := ?_) (by simp only [List.getElem?_toArray, List.getElem?_cons_zero, List.getElem?_cons_succ]; rfl) (by rfl) (fun w => ?_) ?_
  rotate_left
  · go_simp <;> with_reducible rfl
  simp only [Act.put, List.setIfInBounds_toArray, List.set_cons_zero, List.set_cons_succ]
  refine chainL_late (by simp only [List.getElem?_toArray, List.getElem?_cons_zero, List.getElem?_cons_succ]; rfl) ?_
  intro K hK
  go_wp2
  refine hK.out _ _ ?_
  clear hK K
  refine chainL_late (by simp only [List.getElem?_toArray, List.getElem?_cons_zero, List.getElem?_cons_succ]; rfl) ?_
  intro K hK
  go_wp2
  refine hK.out _ _ ?_
  clear hK K
  refine chainL_nil ?_
  clear Bk1
  go_wp2
  refine retG3 Tryz.results10 rfl rfl rfl rfl (put3 HX2z.out _ _ _) ?_
  exact did_end HGz.out HLz.out HGO.out HTz.out (.inr HN.out.1.1) (.inr HN.out.1.2) (.inr HN.out.2) HX2z.out (by omega) _ _ _
end Go.Proofs.YtiifeniijcnahaaGreatDoor
