/-
  Contracts and plain mathematics of GDo1, GDo2, GDo3.
-/
import Derived.Test.YtoddfaoifnkhlaaGreatDoorB12
import Derived.Test.YtoddfaoifnkhlaaGreatDoorB2
namespace Go.Proofs.YtoddfaoifnkhlaaGreatDoor
set_option maxRecDepth 100000
set_option linter.unusedVariables false
set_option maxHeartbeats 8000000
section
open Go.ChangeShapes Go.WideShapes Go.ChangeAt Go.RowKit
theorem do_erase {w : World} {G L M R C : Nat} {g : Gd} (h : Grd w G L M R C g) (hok : GOk g R C) (A : Option Addr) (cap : Nat) (hl : Lns w A g.ls) (hS : Spans w) (ar ac at_ xr xm xn : Int) (xd xf xg xb : Nat) (am : Int) (pf pg pb : Nat) (Al : Option Addr) (nl cl : Nat)  :
  Calls Tryz.prog 24 #[.pointer (some ⟨G, 0, none⟩), .agg #[.slice A R cap, .int .i64 g.row, .int .i64 g.col], .agg #[.int .i64 2, .int .i64 ar, .int .i64 ac, .int .i64 at_, .int .i32 xr, .int .i32 xm, .int .i32 xn, .int .u8 xd, .int .u8 xf, .int .u8 xg, .int .u8 xb, .int .i32 am, .int .u8 pf, .int .u8 pg, .int .u8 pb, .slice Al nl cl]] w (Did w G L M) := by
 obtain ⟨W0, hW0⟩ := exq ((((w.alloc (.cells #[.slice A R cap, .int .i64 g.row, .int .i64 g.col] 26)).alloc (.cells #[.int .i64 2, .int .i64 ar, .int .i64 ac, .int .i64 at_, .int .i32 xr, .int .i32 xm, .int .i32 xn, .int .u8 xd, .int .u8 xf, .int .u8 xg, .int .u8 xb, .int .i32 am, .int .u8 pf, .int .u8 pg, .int .u8 pb, .slice Al nl cl] 67)).alloc (.cells #[.slice none 0 0, .int .i64 0, .int .i64 0] 26)).alloc (.cells #[.int .u8 pf, .int .u8 pg, .int .u8 pb] 93))
 have HB0 : Hid (Below w.heap.size w W0) := by unfold Hid; rw [← hW0]; exact four_new w _ _ _ _
 have HX0 : Hid (Whole W0 w.heap.size 26 [.slice A R cap, .int .i64 g.row, .int .i64 g.col]) := by unfold Hid; rw [← hW0]; exact (((Whole.new _ _ _).alloc _).alloc _).alloc _
 have HX1 : Hid (Whole W0 (w.heap.size + 1) 67 [.int .i64 2, .int .i64 ar, .int .i64 ac, .int .i64 at_, .int .i32 xr, .int .i32 xm, .int .i32 xn, .int .u8 xd, .int .u8 xf, .int .u8 xg, .int .u8 xb, .int .i32 am, .int .u8 pf, .int .u8 pg, .int .u8 pb, .slice Al nl cl]) := by unfold Hid; rw [← hW0]; exact ((whole_snd _ _ _ _).alloc _).alloc _
 have HX2 : Hid (Whole W0 (w.heap.size + 2) 26 [.slice none 0 0, .int .i64 0, .int .i64 0]) := by unfold Hid; rw [← hW0]; exact (whole_thd w _ _ 26 [.slice none 0 0, .int .i64 0, .int .i64 0]).alloc _
 have HX3 : Hid (Whole W0 (w.heap.size + 3) 93 [.int .u8 pf, .int .u8 pg, .int .u8 pb]) := by unfold Hid; rw [← hW0]; exact whole_fth w _ _ _ 93 [.int .u8 pf, .int .u8 pg, .int .u8 pb]
 have HG0 := hide (h.later HB0.out)
 have HL0 := hide (hl.below HB0.out)
 have HS0 := hide (hS.below HB0.out)
 have HGO := hide hok
 have hR1 := hok.r1
 have hR2 := hok.r2
 have hC1 := hok.c1
 have hC2 := hok.c2
 have ltG := h.ltG
 have ltL := h.ltL
 have ltM := h.ltM
 have HW0 := hide hW0
 obtain ⟨a0, a1, a2, a3, a4, a5, a6, a7, a8, a9, b0, b1, b2, b3, b4, b5, la⟩ := cells16 HX1.out
 obtain ⟨p0, p1, p2, lp⟩ := cells3 HX0.out
 obtain ⟨y0, y1, y2, ly⟩ := cells3 HX3.out
 clear hW0 h hl hok hS
 have HOK := hide (HGO.out.erase ar ac at_ ⟨pf, pg, pb⟩)
 go_enter Tryz.func24, Tryz.ntmps24
 go_wp2_with fail
 rw [HW0.out]
 refine (gerase_any HG0.out hC2 HS0.out ar ac at_ pf pg pb).mono ?_
 rintro e w1 ⟨rfl, hg, ht⟩
 have HG1 := hide hg
 have HL1 := hide (HL0.out.turn HG0.out ht)
 have HT1 := hide (Trn.ofB HB0.out ht)
 have HX0b := hide (ht.whole HX0.out (by omega) (by omega) (by omega))
 have HX1b := hide (ht.whole HX1.out (by omega) (by omega) (by omega))
 have HX2b := hide (ht.whole HX2.out (by omega) (by omega) (by omega))
 have HX3b := hide (ht.whole HX3.out (by omega) (by omega) (by omega))
 clear hg ht; clear a0 a1 a2 a3 a4 a5 a6 a7 a8 a9 b0 b1 b2 b3 b4 b5 la p0 p1 p2 lp y0 y1 y2 ly
 obtain ⟨a0, a1, a2, a3, a4, a5, a6, a7, a8, a9, b0, b1, b2, b3, b4, b5, la⟩ := cells16 HX1b.out
 obtain ⟨p0, p1, p2, lp⟩ := cells3 HX0b.out
 obtain ⟨y0, y1, y2, ly⟩ := cells3 HX3b.out
 go_wp2_with fail
 refine (rgerase_any A R C cap g w1 HL1.out HGO.out ar ac at_ pf pg pb).mono ?_
 rintro e w2 ⟨A2, cap2, rfl, hl, hb⟩
 have HLz := hide hl
 have HGz := hide (HG1.out.later hb)
 have HTz := hide (HT1.out.thenB hb)
 have HX2z := hide (HX2b.out.later hb)
 clear hl hb; clear a0 a1 a2 a3 a4 a5 a6 a7 a8 a9 b0 b1 b2 b3 b4 b5 la p0 p1 p2 lp y0 y1 y2 ly
 obtain ⟨z0, z1, z2, lz⟩ := cells3 HX2z.out
 have hzf := HX2z.out.frozen
 go_wp2
 refine retG3 Tryz.results24 rfl rfl rfl rfl (put3 HX2z.out _ _ _) ?_
 exact did_end HGz.out HLz.out HOK.out HTz.out (.inl rfl) (.inl rfl) (.inl rfl) HX2z.out (by omega) _ _ _
theorem do_move {w : World} {G L M R C : Nat} {g : Gd} (h : Grd w G L M R C g) (hok : GOk g R C) (A : Option Addr) (cap : Nat) (hl : Lns w A g.ls) (hS : Spans w) (ar ac at_ xr xm xn : Int) (xd xf xg xb : Nat) (am : Int) (pf pg pb : Nat) (Al : Option Addr) (nl cl : Nat)  :
  Calls Tryz.prog 24 #[.pointer (some ⟨G, 0, none⟩), .agg #[.slice A R cap, .int .i64 g.row, .int .i64 g.col], .agg #[.int .i64 4, .int .i64 ar, .int .i64 ac, .int .i64 at_, .int .i32 xr, .int .i32 xm, .int .i32 xn, .int .u8 xd, .int .u8 xf, .int .u8 xg, .int .u8 xb, .int .i32 am, .int .u8 pf, .int .u8 pg, .int .u8 pb, .slice Al nl cl]] w (Did w G L M) := by
 obtain ⟨W0, hW0⟩ := exq ((((w.alloc (.cells #[.slice A R cap, .int .i64 g.row, .int .i64 g.col] 26)).alloc (.cells #[.int .i64 4, .int .i64 ar, .int .i64 ac, .int .i64 at_, .int .i32 xr, .int .i32 xm, .int .i32 xn, .int .u8 xd, .int .u8 xf, .int .u8 xg, .int .u8 xb, .int .i32 am, .int .u8 pf, .int .u8 pg, .int .u8 pb, .slice Al nl cl] 67)).alloc (.cells #[.slice none 0 0, .int .i64 0, .int .i64 0] 26)).alloc (.cells #[.int .u8 pf, .int .u8 pg, .int .u8 pb] 93))
 have HB0 : Hid (Below w.heap.size w W0) := by unfold Hid; rw [← hW0]; exact four_new w _ _ _ _
 have HX0 : Hid (Whole W0 w.heap.size 26 [.slice A R cap, .int .i64 g.row, .int .i64 g.col]) := by unfold Hid; rw [← hW0]; exact (((Whole.new _ _ _).alloc _).alloc _).alloc _
 have HX1 : Hid (Whole W0 (w.heap.size + 1) 67 [.int .i64 4, .int .i64 ar, .int .i64 ac, .int .i64 at_, .int .i32 xr, .int .i32 xm, .int .i32 xn, .int .u8 xd, .int .u8 xf, .int .u8 xg, .int .u8 xb, .int .i32 am, .int .u8 pf, .int .u8 pg, .int .u8 pb, .slice Al nl cl]) := by unfold Hid; rw [← hW0]; exact ((whole_snd _ _ _ _).alloc _).alloc _
 have HX2 : Hid (Whole W0 (w.heap.size + 2) 26 [.slice none 0 0, .int .i64 0, .int .i64 0]) := by unfold Hid; rw [← hW0]; exact (whole_thd w _ _ 26 [.slice none 0 0, .int .i64 0, .int .i64 0]).alloc _
 have HX3 : Hid (Whole W0 (w.heap.size + 3) 93 [.int .u8 pf, .int .u8 pg, .int .u8 pb]) := by unfold Hid; rw [← hW0]; exact whole_fth w _ _ _ 93 [.int .u8 pf, .int .u8 pg, .int .u8 pb]
 have HG0 := hide (h.later HB0.out)
 have HL0 := hide (hl.below HB0.out)
 have HS0 := hide (hS.below HB0.out)
 have HGO := hide hok
 have hR1 := hok.r1
 have hR2 := hok.r2
 have hC1 := hok.c1
 have hC2 := hok.c2
 have ltG := h.ltG
 have ltL := h.ltL
 have ltM := h.ltM
 have HW0 := hide hW0
 obtain ⟨a0, a1, a2, a3, a4, a5, a6, a7, a8, a9, b0, b1, b2, b3, b4, b5, la⟩ := cells16 HX1.out
 obtain ⟨p0, p1, p2, lp⟩ := cells3 HX0.out
 obtain ⟨y0, y1, y2, ly⟩ := cells3 HX3.out
 clear hW0 h hl hok hS
 have HOK := hide (HGO.out.move ar ac)
 have HLen := hide HGO.out.len
 have HC0 := hide (HGO.out.each 0 hR1).1
 go_enter Tryz.func24, Tryz.ntmps24
 go_wp2_with fail
 rw [HW0.out]
 refine (move_any HG0.out hR1 hR2 hC1 hC2 ar ac).mono ?_
 rintro e w1 ⟨rfl, hg, ho⟩
 have ht : Trn G L M W0 w1 := Trn.of_onlyG ho
 have HG1 := hide hg
 have HL1 := hide (HL0.out.turn HG0.out ht)
 have HT1 := hide (Trn.ofB HB0.out ht)
 have HX0b := hide (ht.whole HX0.out (by omega) (by omega) (by omega))
 have HX1b := hide (ht.whole HX1.out (by omega) (by omega) (by omega))
 have HX2b := hide (ht.whole HX2.out (by omega) (by omega) (by omega))
 have HX3b := hide (ht.whole HX3.out (by omega) (by omega) (by omega))
 clear hg ht ho; clear a0 a1 a2 a3 a4 a5 a6 a7 a8 a9 b0 b1 b2 b3 b4 b5 la p0 p1 p2 lp y0 y1 y2 ly
 obtain ⟨a0, a1, a2, a3, a4, a5, a6, a7, a8, a9, b0, b1, b2, b3, b4, b5, la⟩ := cells16 HX1b.out
 obtain ⟨p0, p1, p2, lp⟩ := cells3 HX0b.out
 obtain ⟨y0, y1, y2, ly⟩ := cells3 HX3b.out
 go_wp2_with fail
 refine (rgmove_any A R C cap g w1 HL1.out HLen.out hR1 hR2 hC1 hC2 HC0.out ar ac).mono ?_
 rintro e w2 ⟨A2, cap2, rfl, hl, hb⟩
 have HLz := hide hl
 have HGz := hide (HG1.out.later hb)
 have HTz := hide (HT1.out.thenB hb)
 have HX2z := hide (HX2b.out.later hb)
 clear hl hb; clear a0 a1 a2 a3 a4 a5 a6 a7 a8 a9 b0 b1 b2 b3 b4 b5 la p0 p1 p2 lp y0 y1 y2 ly
 obtain ⟨z0, z1, z2, lz⟩ := cells3 HX2z.out
 have hzf := HX2z.out.frozen
 go_wp2
 refine retG3 Tryz.results24 rfl rfl rfl rfl (put3 HX2z.out _ _ _) ?_
 exact did_end HGz.out HLz.out HOK.out HTz.out (.inl rfl) (.inl rfl) (.inl rfl) HX2z.out (by omega) _ _ _
theorem do_scroll {w : World} {G L M R C : Nat} {g : Gd} (h : Grd w G L M R C g) (hok : GOk g R C) (A : Option Addr) (cap : Nat) (hl : Lns w A g.ls) (hS : Spans w) (ar ac at_ xr xm xn : Int) (xd xf xg xb : Nat) (am : Int) (pf pg pb : Nat) (Al : Option Addr) (nl cl : Nat)  :
  Calls Tryz.prog 24 #[.pointer (some ⟨G, 0, none⟩), .agg #[.slice A R cap, .int .i64 g.row, .int .i64 g.col], .agg #[.int .i64 5, .int .i64 ar, .int .i64 ac, .int .i64 at_, .int .i32 xr, .int .i32 xm, .int .i32 xn, .int .u8 xd, .int .u8 xf, .int .u8 xg, .int .u8 xb, .int .i32 am, .int .u8 pf, .int .u8 pg, .int .u8 pb, .slice Al nl cl]] w (Did w G L M) := by
 obtain ⟨W0, hW0⟩ := exq ((((w.alloc (.cells #[.slice A R cap, .int .i64 g.row, .int .i64 g.col] 26)).alloc (.cells #[.int .i64 5, .int .i64 ar, .int .i64 ac, .int .i64 at_, .int .i32 xr, .int .i32 xm, .int .i32 xn, .int .u8 xd, .int .u8 xf, .int .u8 xg, .int .u8 xb, .int .i32 am, .int .u8 pf, .int .u8 pg, .int .u8 pb, .slice Al nl cl] 67)).alloc (.cells #[.slice none 0 0, .int .i64 0, .int .i64 0] 26)).alloc (.cells #[.int .u8 pf, .int .u8 pg, .int .u8 pb] 93))
 have HB0 : Hid (Below w.heap.size w W0) := by unfold Hid; rw [← hW0]; exact four_new w _ _ _ _
 have HX0 : Hid (Whole W0 w.heap.size 26 [.slice A R cap, .int .i64 g.row, .int .i64 g.col]) := by unfold Hid; rw [← hW0]; exact (((Whole.new _ _ _).alloc _).alloc _).alloc _
 have HX1 : Hid (Whole W0 (w.heap.size + 1) 67 [.int .i64 5, .int .i64 ar, .int .i64 ac, .int .i64 at_, .int .i32 xr, .int .i32 xm, .int .i32 xn, .int .u8 xd, .int .u8 xf, .int .u8 xg, .int .u8 xb, .int .i32 am, .int .u8 pf, .int .u8 pg, .int .u8 pb, .slice Al nl cl]) := by unfold Hid; rw [← hW0]; exact ((whole_snd _ _ _ _).alloc _).alloc _
 have HX2 : Hid (Whole W0 (w.heap.size + 2) 26 [.slice none 0 0, .int .i64 0, .int .i64 0]) := by unfold Hid; rw [← hW0]; exact (whole_thd w _ _ 26 [.slice none 0 0, .int .i64 0, .int .i64 0]).alloc _
 have HX3 : Hid (Whole W0 (w.heap.size + 3) 93 [.int .u8 pf, .int .u8 pg, .int .u8 pb]) := by unfold Hid; rw [← hW0]; exact whole_fth w _ _ _ 93 [.int .u8 pf, .int .u8 pg, .int .u8 pb]
 have HG0 := hide (h.later HB0.out)
 have HL0 := hide (hl.below HB0.out)
 have HS0 := hide (hS.below HB0.out)
 have HGO := hide hok
 have hR1 := hok.r1
 have hR2 := hok.r2
 have hC1 := hok.c1
 have hC2 := hok.c2
 have ltG := h.ltG
 have ltL := h.ltL
 have ltM := h.ltM
 have HW0 := hide hW0
 obtain ⟨a0, a1, a2, a3, a4, a5, a6, a7, a8, a9, b0, b1, b2, b3, b4, b5, la⟩ := cells16 HX1.out
 obtain ⟨p0, p1, p2, lp⟩ := cells3 HX0.out
 obtain ⟨y0, y1, y2, ly⟩ := cells3 HX3.out
 clear hW0 h hl hok hS
 have HOK := hide (HGO.out.scroll ar ⟨pf, pg, pb⟩)
 go_enter Tryz.func24, Tryz.ntmps24
 go_wp2_with fail
 rw [HW0.out]
 refine (scroll_any HG0.out hR1 hR2 hC1 hC2 HS0.out ar pf pg pb).mono ?_
 rintro e w1 ⟨rfl, L2, hg, ht, hL2⟩
 have HG1 := hide hg
 have HL1 := hide (HL0.out.turn HG0.out ht)
 have HT1 := hide (Trn.ofB HB0.out ht)
 have HL2 : Hid (L2 = L ∨ w.heap.size ≤ L2) := by
  unfold Hid
  rcases hL2 with q | q
  ·exact .inl q
  ·exact .inr (Nat.le_trans HB0.out.size q)
 have HX0b := hide (ht.whole HX0.out (by omega) (by omega) (by omega))
 have HX1b := hide (ht.whole HX1.out (by omega) (by omega) (by omega))
 have HX2b := hide (ht.whole HX2.out (by omega) (by omega) (by omega))
 have HX3b := hide (ht.whole HX3.out (by omega) (by omega) (by omega))
 clear hg ht hL2; clear a0 a1 a2 a3 a4 a5 a6 a7 a8 a9 b0 b1 b2 b3 b4 b5 la p0 p1 p2 lp y0 y1 y2 ly
 obtain ⟨a0, a1, a2, a3, a4, a5, a6, a7, a8, a9, b0, b1, b2, b3, b4, b5, la⟩ := cells16 HX1b.out
 obtain ⟨p0, p1, p2, lp⟩ := cells3 HX0b.out
 obtain ⟨y0, y1, y2, ly⟩ := cells3 HX3b.out
 go_wp2_with fail
 refine (rgscroll_any A R C cap g w1 HL1.out HGO.out ar pf pg pb).mono ?_
 rintro e w2 ⟨A2, cap2, rfl, hl, hb⟩
 have HLz := hide hl
 have HGz := hide (HG1.out.later hb)
 have HTz := hide (HT1.out.thenB hb)
 have HX2z := hide (HX2b.out.later hb)
 clear hl hb; clear a0 a1 a2 a3 a4 a5 a6 a7 a8 a9 b0 b1 b2 b3 b4 b5 la p0 p1 p2 lp y0 y1 y2 ly
 obtain ⟨z0, z1, z2, lz⟩ := cells3 HX2z.out
 have hzf := HX2z.out.frozen
 go_wp2
 refine retG3 Tryz.results24 rfl rfl rfl rfl (put3 HX2z.out _ _ _) ?_
 exact did_end HGz.out HLz.out HOK.out HTz.out (.inl rfl) (HL2.out) (.inl rfl) HX2z.out (by omega) _ _ _
theorem do_other {w : World} {G L M R C : Nat} {g : Gd} (h : Grd w G L M R C g) (hok : GOk g R C) (A : Option Addr) (cap : Nat) (hl : Lns w A g.ls) (hS : Spans w) (ar ac at_ xr xm xn : Int) (xd xf xg xb : Nat) (am : Int) (pf pg pb : Nat) (Al : Option Addr) (nl cl : Nat) (ak : Int) (e0 : (ak == 0) = false) (e1 : (ak == 1) = false) (e2 : (ak == 2) = false) (e3 : (ak == 3) = false) (e4 : (ak == 4) = false) (e5 : (ak == 5) = false) (e6 : (ak == 6) = false) (e7 : (ak == 7) = false) :
  Calls Tryz.prog 24 #[.pointer (some ⟨G, 0, none⟩), .agg #[.slice A R cap, .int .i64 g.row, .int .i64 g.col], .agg #[.int .i64 ak, .int .i64 ar, .int .i64 ac, .int .i64 at_, .int .i32 xr, .int .i32 xm, .int .i32 xn, .int .u8 xd, .int .u8 xf, .int .u8 xg, .int .u8 xb, .int .i32 am, .int .u8 pf, .int .u8 pg, .int .u8 pb, .slice Al nl cl]] w (Did w G L M) := by
 obtain ⟨W0, hW0⟩ := exq ((((w.alloc (.cells #[.slice A R cap, .int .i64 g.row, .int .i64 g.col] 26)).alloc (.cells #[.int .i64 ak, .int .i64 ar, .int .i64 ac, .int .i64 at_, .int .i32 xr, .int .i32 xm, .int .i32 xn, .int .u8 xd, .int .u8 xf, .int .u8 xg, .int .u8 xb, .int .i32 am, .int .u8 pf, .int .u8 pg, .int .u8 pb, .slice Al nl cl] 67)).alloc (.cells #[.slice none 0 0, .int .i64 0, .int .i64 0] 26)).alloc (.cells #[.int .u8 pf, .int .u8 pg, .int .u8 pb] 93))
 have HB0 : Hid (Below w.heap.size w W0) := by unfold Hid; rw [← hW0]; exact four_new w _ _ _ _
 have HX0 : Hid (Whole W0 w.heap.size 26 [.slice A R cap, .int .i64 g.row, .int .i64 g.col]) := by unfold Hid; rw [← hW0]; exact (((Whole.new _ _ _).alloc _).alloc _).alloc _
 have HX1 : Hid (Whole W0 (w.heap.size + 1) 67 [.int .i64 ak, .int .i64 ar, .int .i64 ac, .int .i64 at_, .int .i32 xr, .int .i32 xm, .int .i32 xn, .int .u8 xd, .int .u8 xf, .int .u8 xg, .int .u8 xb, .int .i32 am, .int .u8 pf, .int .u8 pg, .int .u8 pb, .slice Al nl cl]) := by unfold Hid; rw [← hW0]; exact ((whole_snd _ _ _ _).alloc _).alloc _
 have HX2 : Hid (Whole W0 (w.heap.size + 2) 26 [.slice none 0 0, .int .i64 0, .int .i64 0]) := by unfold Hid; rw [← hW0]; exact (whole_thd w _ _ 26 [.slice none 0 0, .int .i64 0, .int .i64 0]).alloc _
 have HX3 : Hid (Whole W0 (w.heap.size + 3) 93 [.int .u8 pf, .int .u8 pg, .int .u8 pb]) := by unfold Hid; rw [← hW0]; exact whole_fth w _ _ _ 93 [.int .u8 pf, .int .u8 pg, .int .u8 pb]
 have HG0 := hide (h.later HB0.out)
 have HL0 := hide (hl.below HB0.out)
 have HS0 := hide (hS.below HB0.out)
 have HGO := hide hok
 have hR1 := hok.r1
 have hR2 := hok.r2
 have hC1 := hok.c1
 have hC2 := hok.c2
 have ltG := h.ltG
 have ltL := h.ltL
 have ltM := h.ltM
 have HW0 := hide hW0
 obtain ⟨a0, a1, a2, a3, a4, a5, a6, a7, a8, a9, b0, b1, b2, b3, b4, b5, la⟩ := cells16 HX1.out
 obtain ⟨p0, p1, p2, lp⟩ := cells3 HX0.out
 obtain ⟨y0, y1, y2, ly⟩ := cells3 HX3.out
 clear hW0 h hl hok hS
 go_enter Tryz.func24, Tryz.ntmps24
 obtain ⟨z0, z1, z2, lz⟩ := cells3 HX2.out
 have hzf := HX2.out.frozen
 go_wp2; rw [HW0.out]
 refine rgL (fun _ => True) 3 [(2, 0), (2, 2), (1, 1), (3, 3), (3, 4)] (trivial) ?_
 refine puL (h := ?_)
 refine puL (h := ?_)
 refine alL fun K hK => ?_
 go_wp2
 refine hK.out _ _ (trivial) ?_
 clear hK K
 refine laL fun K hK => ?_
 go_wp2
 refine hK.out _ _ ?_
 clear hK K
 refine laL fun K hK => ?_
 go_wp2
 refine hK.out _ _ ?_
 clear hK K
 refine chainL_nil ?_
 go_wp2
 refine retG3 Tryz.results24 rfl rfl rfl rfl (put3 HX2.out _ _ _).drew ?_
 exact Did.drew (did_end HG0.out HL0.out HGO.out (Trn.of_below HB0.out) (.inl rfl) (.inl rfl) (.inl rfl) HX2.out (by omega) _ _ _)
theorem do_copy {w : World} {G L M R C : Nat} {g : Gd} (h : Grd w G L M R C g) (hok : GOk g R C) (A : Option Addr) (cap : Nat) (hl : Lns w A g.ls) (hS : Spans w) (ar ac at_ xr xm xn : Int) (xd xf xg xb : Nat) (am : Int) (pf pg pb : Nat) (Al : Option Addr) (nl cl : Nat)  :
  Calls Tryz.prog 24 #[.pointer (some ⟨G, 0, none⟩), .agg #[.slice A R cap, .int .i64 g.row, .int .i64 g.col], .agg #[.int .i64 7, .int .i64 ar, .int .i64 ac, .int .i64 at_, .int .i32 xr, .int .i32 xm, .int .i32 xn, .int .u8 xd, .int .u8 xf, .int .u8 xg, .int .u8 xb, .int .i32 am, .int .u8 pf, .int .u8 pg, .int .u8 pb, .slice Al nl cl]] w (Did w G L M) := by
 obtain ⟨W0, hW0⟩ := exq ((((w.alloc (.cells #[.slice A R cap, .int .i64 g.row, .int .i64 g.col] 26)).alloc (.cells #[.int .i64 7, .int .i64 ar, .int .i64 ac, .int .i64 at_, .int .i32 xr, .int .i32 xm, .int .i32 xn, .int .u8 xd, .int .u8 xf, .int .u8 xg, .int .u8 xb, .int .i32 am, .int .u8 pf, .int .u8 pg, .int .u8 pb, .slice Al nl cl] 67)).alloc (.cells #[.slice none 0 0, .int .i64 0, .int .i64 0] 26)).alloc (.cells #[.int .u8 pf, .int .u8 pg, .int .u8 pb] 93))
 have HB0 : Hid (Below w.heap.size w W0) := by unfold Hid; rw [← hW0]; exact four_new w _ _ _ _
 have HX0 : Hid (Whole W0 w.heap.size 26 [.slice A R cap, .int .i64 g.row, .int .i64 g.col]) := by unfold Hid; rw [← hW0]; exact (((Whole.new _ _ _).alloc _).alloc _).alloc _
 have HX1 : Hid (Whole W0 (w.heap.size + 1) 67 [.int .i64 7, .int .i64 ar, .int .i64 ac, .int .i64 at_, .int .i32 xr, .int .i32 xm, .int .i32 xn, .int .u8 xd, .int .u8 xf, .int .u8 xg, .int .u8 xb, .int .i32 am, .int .u8 pf, .int .u8 pg, .int .u8 pb, .slice Al nl cl]) := by unfold Hid; rw [← hW0]; exact ((whole_snd _ _ _ _).alloc _).alloc _
 have HX2 : Hid (Whole W0 (w.heap.size + 2) 26 [.slice none 0 0, .int .i64 0, .int .i64 0]) := by unfold Hid; rw [← hW0]; exact (whole_thd w _ _ 26 [.slice none 0 0, .int .i64 0, .int .i64 0]).alloc _
 have HX3 : Hid (Whole W0 (w.heap.size + 3) 93 [.int .u8 pf, .int .u8 pg, .int .u8 pb]) := by unfold Hid; rw [← hW0]; exact whole_fth w _ _ _ 93 [.int .u8 pf, .int .u8 pg, .int .u8 pb]
 have HG0 := hide (h.later HB0.out)
 have HL0 := hide (hl.below HB0.out)
 have HS0 := hide (hS.below HB0.out)
 have HGO := hide hok
 have hR1 := hok.r1
 have hR2 := hok.r2
 have hC1 := hok.c1
 have hC2 := hok.c2
 have ltG := h.ltG
 have ltL := h.ltL
 have ltM := h.ltM
 have HW0 := hide hW0
 obtain ⟨a0, a1, a2, a3, a4, a5, a6, a7, a8, a9, b0, b1, b2, b3, b4, b5, la⟩ := cells16 HX1.out
 obtain ⟨p0, p1, p2, lp⟩ := cells3 HX0.out
 obtain ⟨y0, y1, y2, ly⟩ := cells3 HX3.out
 clear hW0 h hl hok hS
 go_enter Tryz.func24, Tryz.ntmps24
 go_wp2_with fail
 rw [HW0.out]
 refine (copy_any HG0.out hR1 hR2 hC1 hC2).mono ?_
 rintro e w1 ⟨G2, L2, M2, rfl, hg, hb, n1, n2, n3⟩
 have HG1 := hide hg
 have HGO1 := hide (HG0.out.later hb)
 have HL1 := hide (HL0.out.below hb)
 have HT1 := hide (Trn.of_below (G := G) (L := L) (M := M) (HB0.out.trans (hb.mono HB0.out.size)))
 have HN : Hid ((w.heap.size ≤ G2 ∧ w.heap.size ≤ L2) ∧ w.heap.size ≤ M2) := ⟨⟨Nat.le_trans HB0.out.size n1, Nat.le_trans HB0.out.size n2⟩, Nat.le_trans HB0.out.size n3⟩
 have HSS := hide (sameG_self g)
 have HX0b := hide (HX0.out.later hb)
 have HX1b := hide (HX1.out.later hb)
 have HX2b := hide (HX2.out.later hb)
 have HX3b := hide (HX3.out.later hb)
 clear hg hb n1 n2 n3; clear a0 a1 a2 a3 a4 a5 a6 a7 a8 a9 b0 b1 b2 b3 b4 b5 la p0 p1 p2 lp y0 y1 y2 ly
 obtain ⟨a0, a1, a2, a3, a4, a5, a6, a7, a8, a9, b0, b1, b2, b3, b4, b5, la⟩ := cells16 HX1b.out
 obtain ⟨p0, p1, p2, lp⟩ := cells3 HX0b.out
 obtain ⟨y0, y1, y2, ly⟩ := cells3 HX3b.out
 go_wp2
 refine rgL (fun w' => Below w1.heap.size w1 w') 10 [(2, 0), (2, 2), (2, 3), (2, 4), (2, 5), (2, 6), (0, 1), (1, 7), (2, 9), (2, 8), (3, 10), (3, 11)] bd1 ?_
 iterate 6 refine puL (h := ?_)
 refine stL (hy := fun w hS => by obtain ⟨f0, f1, f2, -⟩ := cells3 (HX0b.out.later hS); go_simp <;> with_reducible rfl) (h := ?_)
 refine alL fun K hK => ?_
 go_wp2_with fail
 refine (gsame_any (HG1.out.later bd1) (HGO1.out.later bd1) hR2 hR2 hC2).mono ?_
 rintro e k1 ⟨rfl, hb⟩
 rw [HSS.out]
 have Bk1 : Below w1.heap.size w1 k1 := ((Below.refl w1.heap.size w1).drewN 1).trans hb
 have HX2z := hide (HX2b.out.later Bk1)
 have HGz := hide (HG1.out.later Bk1)
 have HLz := hide (HL1.out.below Bk1)
 have HTz := hide (HT1.out.thenB Bk1)
 clear hb; clear a0 a1 a2 a3 a4 a5 a6 a7 a8 a9 b0 b1 b2 b3 b4 b5 la p0 p1 p2 lp y0 y1 y2 ly
 obtain ⟨z0, z1, z2, lz⟩ := cells3 HX2z.out
 have hzf := HX2z.out.frozen
 go_wp2
 refine hK.out _ _ (Bk1) ?_
 clear hK K
 refine puL (h := ?_)
 refine puL (h := ?_)
 refine laL fun K hK => ?_
 go_wp2
 refine hK.out _ _ ?_
 clear hK K
 refine laL fun K hK => ?_
 go_wp2
 refine hK.out _ _ ?_
 clear hK K
 refine chainL_nil ?_
 clear Bk1; go_wp2
 refine retG3 Tryz.results24 rfl rfl rfl rfl (put3 HX2z.out _ _ _) ?_
 exact did_end HGz.out HLz.out HGO.out HTz.out (.inr HN.out.1.1) (.inr HN.out.1.2) (.inr HN.out.2) HX2z.out (by omega) _ _ _
theorem do_mark {w : World} {G L M R C : Nat} {g : Gd} (h : Grd w G L M R C g) (hok : GOk g R C) (A : Option Addr) (cap : Nat) (hl : Lns w A g.ls) (hS : Spans w) (ar ac at_ xr xm xn : Int) (xd xf xg xb : Nat) (am : Int) (pf pg pb : Nat) (Al : Option Addr) (nl cl : Nat) (hm : R32 am) :
  Calls Tryz.prog 24 #[.pointer (some ⟨G, 0, none⟩), .agg #[.slice A R cap, .int .i64 g.row, .int .i64 g.col], .agg #[.int .i64 1, .int .i64 ar, .int .i64 ac, .int .i64 at_, .int .i32 xr, .int .i32 xm, .int .i32 xn, .int .u8 xd, .int .u8 xf, .int .u8 xg, .int .u8 xb, .int .i32 am, .int .u8 pf, .int .u8 pg, .int .u8 pb, .slice Al nl cl]] w (Did w G L M) := by
 obtain ⟨W0, hW0⟩ := exq ((((w.alloc (.cells #[.slice A R cap, .int .i64 g.row, .int .i64 g.col] 26)).alloc (.cells #[.int .i64 1, .int .i64 ar, .int .i64 ac, .int .i64 at_, .int .i32 xr, .int .i32 xm, .int .i32 xn, .int .u8 xd, .int .u8 xf, .int .u8 xg, .int .u8 xb, .int .i32 am, .int .u8 pf, .int .u8 pg, .int .u8 pb, .slice Al nl cl] 67)).alloc (.cells #[.slice none 0 0, .int .i64 0, .int .i64 0] 26)).alloc (.cells #[.int .u8 pf, .int .u8 pg, .int .u8 pb] 93))
 have HB0 : Hid (Below w.heap.size w W0) := by unfold Hid; rw [← hW0]; exact four_new w _ _ _ _
 have HX0 : Hid (Whole W0 w.heap.size 26 [.slice A R cap, .int .i64 g.row, .int .i64 g.col]) := by unfold Hid; rw [← hW0]; exact (((Whole.new _ _ _).alloc _).alloc _).alloc _
 have HX1 : Hid (Whole W0 (w.heap.size + 1) 67 [.int .i64 1, .int .i64 ar, .int .i64 ac, .int .i64 at_, .int .i32 xr, .int .i32 xm, .int .i32 xn, .int .u8 xd, .int .u8 xf, .int .u8 xg, .int .u8 xb, .int .i32 am, .int .u8 pf, .int .u8 pg, .int .u8 pb, .slice Al nl cl]) := by unfold Hid; rw [← hW0]; exact ((whole_snd _ _ _ _).alloc _).alloc _
 have HX2 : Hid (Whole W0 (w.heap.size + 2) 26 [.slice none 0 0, .int .i64 0, .int .i64 0]) := by unfold Hid; rw [← hW0]; exact (whole_thd w _ _ 26 [.slice none 0 0, .int .i64 0, .int .i64 0]).alloc _
 have HX3 : Hid (Whole W0 (w.heap.size + 3) 93 [.int .u8 pf, .int .u8 pg, .int .u8 pb]) := by unfold Hid; rw [← hW0]; exact whole_fth w _ _ _ 93 [.int .u8 pf, .int .u8 pg, .int .u8 pb]
 have HG0 := hide (h.later HB0.out)
 have HL0 := hide (hl.below HB0.out)
 have HS0 := hide (hS.below HB0.out)
 have HGO := hide hok
 have hR1 := hok.r1
 have hR2 := hok.r2
 have hC1 := hok.c1
 have hC2 := hok.c2
 have ltG := h.ltG
 have ltL := h.ltL
 have ltM := h.ltM
 have HW0 := hide hW0
 obtain ⟨a0, a1, a2, a3, a4, a5, a6, a7, a8, a9, b0, b1, b2, b3, b4, b5, la⟩ := cells16 HX1.out
 obtain ⟨p0, p1, p2, lp⟩ := cells3 HX0.out
 obtain ⟨y0, y1, y2, ly⟩ := cells3 HX3.out
 clear hW0 h hl hok hS
 have HOK := hide (HGO.out.mark ar ac am hm)
 unfold R32 at hm
 obtain ⟨okv, hk⟩ := exq (markGOk g ar ac am)
 have HKK := hide hk; clear hk
 go_enter Tryz.func24, Tryz.ntmps24
 go_wp2_with fail
 rw [HW0.out]
 refine (rgmark_any A R C cap g W0 HL0.out HGO.out ar ac am).mono ?_
 rintro e w2 ⟨A5, cap5, rfl, hl, hb⟩
 rw [HKK.out]
 obtain ⟨Q10, hQ⟩ := exq (w2.heap.size)
 obtain ⟨W5, hW5⟩ := exq (w2.alloc (.cells #[.slice A5 R cap5, .int .i64 ((markG g ar ac am).row : Int), .int .i64 ((markG g ar ac am).col : Int)] 26))
 have hb5 : Below W0.heap.size W0 W5 := by rw [← hW5]; exact hb.alloc hb.size _
 have HN5 : Hid (Whole W5 Q10 26 [.slice A5 R cap5, .int .i64 ((markG g ar ac am).row : Int), .int .i64 ((markG g ar ac am).col : Int)]) := by unfold Hid; rw [← hW5, ← hQ]; exact Whole.new _ _ _
 have hq10 : w.heap.size ≤ Q10 := by rw [← hQ]; exact Nat.le_trans HB0.out.size hb.size
 have HL5 : Hid (Lns W5 A5 (markG g ar ac am).ls) := by unfold Hid; rw [← hW5]; exact hl.alloc _
 have HG5 := hide (HG0.out.later hb5)
 have HS5 := hide (HS0.out.below hb5)
 have HT5 := hide (Trn.of_below (G := G) (L := L) (M := M) (HB0.out.trans (hb5.mono HB0.out.size)))
 have HX15 := hide (HX1.out.later hb5)
 have HX25 := hide (HX2.out.later hb5)
 have HX35 := hide (HX3.out.later hb5)
 have HX05 := hide (HX0.out.later hb5)
 have HW5 := hide hW5; have HQ10 := hide hQ; clear hl hb hW5 hb5 hQ; clear a0 a1 a2 a3 a4 a5 a6 a7 a8 a9 b0 b1 b2 b3 b4 b5 la p0 p1 p2 lp y0 y1 y2 ly
 obtain ⟨a0, a1, a2, a3, a4, a5, a6, a7, a8, a9, b0, b1, b2, b3, b4, b5, la⟩ := cells16 HX15.out
 obtain ⟨p0, p1, p2, lp⟩ := cells3 HX05.out
 obtain ⟨y0, y1, y2, ly⟩ := cells3 HX35.out
 go_wp2
 rw [HW5.out, HQ10.out]
 refine rgL (fun w' => Whole w' Q10 26 [.slice A5 R cap5, .int .i64 ((markG g ar ac am).row : Int), .int .i64 ((markG g ar ac am).col : Int)] ∧ Whole w' (w.heap.size + 1) 67 [.int .i64 1, .int .i64 ar, .int .i64 ac, .int .i64 at_, .int .i32 xr, .int .i32 xm, .int .i32 xn, .int .u8 xd, .int .u8 xf, .int .u8 xg, .int .u8 xb, .int .i32 am, .int .u8 pf, .int .u8 pg, .int .u8 pb, .slice Al nl cl]) 13 [(2, 0), (2, 2), (2, 10), (2, 3), (2, 5), (2, 7), (0, 1), (0, 4), (0, 6), (1, 8), (1, 9), (2, 12), (2, 11), (3, 13), (3, 14)] (⟨HN5.out.drewN 1, HX15.out.drewN 1⟩) ?_
 iterate 6 refine puL (h := ?_)
 refine stL (hy := fun w hS => by obtain ⟨f0, f1, f2, -⟩ := cells3 hS.1; go_simp <;> with_reducible rfl) (h := ?_)
 refine stL (hy := fun w hS => by obtain ⟨f0, f1, f2, f3, f4, f5, f6, f7, f8, f9, g0, g1, g2, g3, g4, g5, -⟩ := cells16 hS.2; go_simp <;> with_reducible rfl) (h := ?_)
 refine stL (hy := fun w hS => by obtain ⟨f0, f1, f2, f3, f4, f5, f6, f7, f8, f9, g0, g1, g2, g3, g4, g5, -⟩ := cells16 hS.2; go_simp <;> with_reducible rfl) (h := ?_)
 refine alL fun K hK => ?_
 go_wp2
 refine hK.out _ _ (⟨HN5.out.drewN 1, HX15.out.drewN 1⟩) ?_
 clear hK K
 refine alL fun K hK => ?_
 go_wp2_with fail
 refine (gmark_any (HG5.out.later bd1) hC2 HS5.out.drew ar ac am).mono ?_
 rintro e k1 ⟨rfl, hg, ht⟩
 rw [HKK.out]
 have HGz := hide hg
 have HLz := hide ((HL5.out.drewN 1).turn (HG5.out.later bd1) ht)
 have HTz := hide (HT5.out.trans (Trn.ofB ((Below.refl W5.heap.size W5).drewN 1) ht) (.inl rfl))
 have HNz := hide (ht.whole HN5.out.drew (by omega) (by omega) (by omega))
 have HX1z := hide (ht.whole HX15.out.drew (by omega) (by omega) (by omega))
 have HX2z := hide (ht.whole HX25.out.drew (by omega) (by omega) (by omega))
 clear hg ht; clear a0 a1 a2 a3 a4 a5 a6 a7 a8 a9 b0 b1 b2 b3 b4 b5 la p0 p1 p2 lp y0 y1 y2 ly
 obtain ⟨z0, z1, z2, lz⟩ := cells3 HX2z.out
 have hzf := HX2z.out.frozen
 go_wp2
 refine hK.out _ _ (⟨HNz.out, HX1z.out⟩) ?_
 clear hK K
 refine puL (h := ?_)
 refine puL (h := ?_)
 refine laL fun K hK => ?_
 go_wp2
 refine hK.out _ _ ?_
 clear hK K
 refine laL fun K hK => ?_
 go_wp2
 refine hK.out _ _ ?_
 clear hK K
 refine chainL_nil ?_
 go_wp2
 refine retG3 Tryz.results24 rfl rfl rfl rfl (put3 HX2z.out _ _ _) ?_
 exact did_end HGz.out HLz.out HOK.out HTz.out (.inl rfl) (.inl rfl) (.inl rfl) HX2z.out (by omega) _ _ _
theorem do_put {w : World} {G L M R C : Nat} {g : Gd} (h : Grd w G L M R C g) (hok : GOk g R C) (A : Option Addr) (cap : Nat) (hl : Lns w A g.ls) (hS : Spans w) (ar ac at_ xr xm xn : Int) (xd xf xg xb : Nat) (am : Int) (pf pg pb : Nat) (Al : Option Addr) (nl cl : Nat) (hac : -9223372036854775808 ≤ ac ∧ ac < 9223372036854775808) (hx : CelOk xr xm xn xd xf xg xb) :
  Calls Tryz.prog 24 #[.pointer (some ⟨G, 0, none⟩), .agg #[.slice A R cap, .int .i64 g.row, .int .i64 g.col], .agg #[.int .i64 0, .int .i64 ar, .int .i64 ac, .int .i64 at_, .int .i32 xr, .int .i32 xm, .int .i32 xn, .int .u8 xd, .int .u8 xf, .int .u8 xg, .int .u8 xb, .int .i32 am, .int .u8 pf, .int .u8 pg, .int .u8 pb, .slice Al nl cl]] w (Did w G L M) := by
 obtain ⟨W0, hW0⟩ := exq ((((w.alloc (.cells #[.slice A R cap, .int .i64 g.row, .int .i64 g.col] 26)).alloc (.cells #[.int .i64 0, .int .i64 ar, .int .i64 ac, .int .i64 at_, .int .i32 xr, .int .i32 xm, .int .i32 xn, .int .u8 xd, .int .u8 xf, .int .u8 xg, .int .u8 xb, .int .i32 am, .int .u8 pf, .int .u8 pg, .int .u8 pb, .slice Al nl cl] 67)).alloc (.cells #[.slice none 0 0, .int .i64 0, .int .i64 0] 26)).alloc (.cells #[.int .u8 pf, .int .u8 pg, .int .u8 pb] 93))
 have HB0 : Hid (Below w.heap.size w W0) := by unfold Hid; rw [← hW0]; exact four_new w _ _ _ _
 have HX0 : Hid (Whole W0 w.heap.size 26 [.slice A R cap, .int .i64 g.row, .int .i64 g.col]) := by unfold Hid; rw [← hW0]; exact (((Whole.new _ _ _).alloc _).alloc _).alloc _
 have HX1 : Hid (Whole W0 (w.heap.size + 1) 67 [.int .i64 0, .int .i64 ar, .int .i64 ac, .int .i64 at_, .int .i32 xr, .int .i32 xm, .int .i32 xn, .int .u8 xd, .int .u8 xf, .int .u8 xg, .int .u8 xb, .int .i32 am, .int .u8 pf, .int .u8 pg, .int .u8 pb, .slice Al nl cl]) := by unfold Hid; rw [← hW0]; exact ((whole_snd _ _ _ _).alloc _).alloc _
 have HX2 : Hid (Whole W0 (w.heap.size + 2) 26 [.slice none 0 0, .int .i64 0, .int .i64 0]) := by unfold Hid; rw [← hW0]; exact (whole_thd w _ _ 26 [.slice none 0 0, .int .i64 0, .int .i64 0]).alloc _
 have HX3 : Hid (Whole W0 (w.heap.size + 3) 93 [.int .u8 pf, .int .u8 pg, .int .u8 pb]) := by unfold Hid; rw [← hW0]; exact whole_fth w _ _ _ 93 [.int .u8 pf, .int .u8 pg, .int .u8 pb]
 have HG0 := hide (h.later HB0.out)
 have HL0 := hide (hl.below HB0.out)
 have HS0 := hide (hS.below HB0.out)
 have HGO := hide hok
 have hR1 := hok.r1
 have hR2 := hok.r2
 have hC1 := hok.c1
 have hC2 := hok.c2
 have ltG := h.ltG
 have ltL := h.ltL
 have ltM := h.ltM
 have HW0 := hide hW0
 obtain ⟨a0, a1, a2, a3, a4, a5, a6, a7, a8, a9, b0, b1, b2, b3, b4, b5, la⟩ := cells16 HX1.out
 obtain ⟨p0, p1, p2, lp⟩ := cells3 HX0.out
 obtain ⟨y0, y1, y2, ly⟩ := cells3 HX3.out
 clear hW0 h hl hok hS
 obtain ⟨hxr, hxm, hxn, hxd, -⟩ := hx
 have HOK := hide (HGO.out.put ar ac ⟨xr, xm, xn, xd, ⟨xf, xg, xb⟩⟩ ⟨hxr, hxm, hxn, hxd⟩)
 obtain ⟨okv, hk⟩ := exq (putGOk g ar ac ⟨xr, xm, xn, xd, ⟨xf, xg, xb⟩⟩)
 have HKK := hide hk; clear hk
 go_enter Tryz.func24, Tryz.ntmps24
 go_wp2; rw [HW0.out]
 refine rgT (fun w' => Below W0.heap.size W0 w') (.take 1 (.take 3 (.take 5 (.take 0 (.take 2 (.take 4 (.take 6 (.two 7 (.two 8 (.take 9 (.take 10 (.take 11 (.alone 12 (.alone 13 (.alone 14 .done)))))) 12 (.alone 8 (.take 9 (.take 10 (.take 11 (.alone 13 (.alone 14 .done))))))) 12 (.alone 7 (.alone 8 (.take 9 (.take 10 (.take 11 (.alone 13 (.alone 14 .done))))))))))))))) bd1 ?_
 iterate 3 refine stT (h := ?_)
 refine stT (hy := fun w hS => by obtain ⟨f0, f1, f2, -⟩ := cells3 (HX0.out.later hS); go_simp <;> with_reducible rfl) (h := ?_)
 refine stT (hy := fun w hS => by obtain ⟨f0, f1, f2, f3, f4, f5, f6, f7, f8, f9, g0, g1, g2, g3, g4, g5, -⟩ := cells16 (HX1.out.later hS); go_simp <;> with_reducible rfl) (h := ?_)
 refine stT (hy := fun w hS => by obtain ⟨f0, f1, f2, f3, f4, f5, f6, f7, f8, f9, g0, g1, g2, g3, g4, g5, -⟩ := cells16 (HX1.out.later hS); go_simp <;> with_reducible rfl) (h := ?_)
 refine stT (hy := fun w hS => by obtain ⟨f0, f1, f2, f3, f4, f5, f6, f7, f8, f9, g0, g1, g2, g3, g4, g5, -⟩ := cells16 (HX1.out.later hS); go_simp <;> with_reducible rfl) (h := ?_)
 refine tree_two (by simp only [List.getElem?_toArray, List.getElem?_cons_zero, List.getElem?_cons_succ]; rfl) (by simp only [List.getElem?_toArray, List.getElem?_cons_zero, List.getElem?_cons_succ]; rfl) ?_ ?_
 ·intro K hK
  go_wp2_with fail
  refine (lof_v xr xm xn xd xf xg xb hxr hxm hxn _).mono ?_
  rintro e k1 ⟨rfl, hb⟩
  have Bk1 : Below W0.heap.size W0 k1 := ((Below.refl W0.heap.size W0).drewN 1).trans hb
  clear hb; go_wp2
  refine hK.out _ _ (Bk1) ?_
  clear hK K
  refine tree_two (by simp only [List.getElem?_toArray, List.getElem?_cons_zero, List.getElem?_cons_succ]; rfl) (by simp only [List.getElem?_toArray, List.getElem?_cons_zero, List.getElem?_cons_succ]; rfl) ?_ ?_
  ·intro K hK
   go_wp2_with fail
   refine (rgput_any A R C cap g k1 (HL0.out.below Bk1) HGO.out ar ac xr xm xn xd xf xg xb hxd hac).mono ?_
   rintro e k2 ⟨A5, cap5, rfl, hl, hb⟩
   rw [HKK.out]
   have Bk2 : Below W0.heap.size W0 k2 := Bk1.trans (hb.mono Bk1.size)
   have HLa := hide hl; clear hl hb; go_wp2
   refine hK.out _ _ (Bk2) ?_
   clear hK K
   iterate 3 refine stT (h := ?_)
   refine alT fun K hK => ?_
   go_wp2
   refine hK.out _ _ (Bk2.alloc Bk2.size _) ?_
   clear hK K
   refine alT fun K hK => ?_
   go_wp2
   refine hK.out _ _ (Bk2.alloc Bk2.size _) ?_
   clear hK K
   refine alT fun K hK => ?_
   go_wp2
   refine hK.out _ _ (Bk2.alloc Bk2.size _) ?_
   clear hK K
   refine tree_done ?_
   obtain ⟨Q10, hQ⟩ := exq (k2.heap.size)
   obtain ⟨W5, hW5⟩ := exq (k2.alloc (.cells #[.slice A5 R cap5, .int .i64 ((putG g ar ac ⟨xr, xm, xn, xd, ⟨xf, xg, xb⟩⟩).row : Int), .int .i64 ((putG g ar ac ⟨xr, xm, xn, xd, ⟨xf, xg, xb⟩⟩).col : Int)] 26))
   have hb5 : Below W0.heap.size W0 W5 := by rw [← hW5]; exact Bk2.alloc Bk2.size _
   have HN5 : Hid (Whole W5 Q10 26 [.slice A5 R cap5, .int .i64 ((putG g ar ac ⟨xr, xm, xn, xd, ⟨xf, xg, xb⟩⟩).row : Int), .int .i64 ((putG g ar ac ⟨xr, xm, xn, xd, ⟨xf, xg, xb⟩⟩).col : Int)]) := by unfold Hid; rw [← hW5, ← hQ]; exact Whole.new _ _ _
   have hq10 : w.heap.size ≤ Q10 := by rw [← hQ]; exact Nat.le_trans HB0.out.size Bk2.size
   have HL5 : Hid (Lns W5 A5 (putG g ar ac ⟨xr, xm, xn, xd, ⟨xf, xg, xb⟩⟩).ls) := by unfold Hid; rw [← hW5]; exact HLa.out.alloc _
   have HG5 := hide (HG0.out.later hb5)
   have HS5 := hide (HS0.out.below hb5)
   have HT5 := hide (Trn.of_below (G := G) (L := L) (M := M) (HB0.out.trans (hb5.mono HB0.out.size)))
   have HX15 := hide (HX1.out.later hb5)
   have HX25 := hide (HX2.out.later hb5)
   have HX35 := hide (HX3.out.later hb5)
   have HX05 := hide (HX0.out.later hb5)
   have HW5 := hide hW5; have HQ10 := hide hQ; clear hW5 hb5 hQ Bk1 Bk2; clear a0 a1 a2 a3 a4 a5 a6 a7 a8 a9 b0 b1 b2 b3 b4 b5 la p0 p1 p2 lp y0 y1 y2 ly
   obtain ⟨a0, a1, a2, a3, a4, a5, a6, a7, a8, a9, b0, b1, b2, b3, b4, b5, la⟩ := cells16 HX15.out
   obtain ⟨p0, p1, p2, lp⟩ := cells3 HX05.out
   obtain ⟨y0, y1, y2, ly⟩ := cells3 HX35.out
   simp only [HQ10.out, HW5.out]
   go_wp2
   refine rgL (fun w' => Whole w' Q10 26 [.slice A5 R cap5, .int .i64 ((putG g ar ac ⟨xr, xm, xn, xd, ⟨xf, xg, xb⟩⟩).row : Int), .int .i64 ((putG g ar ac ⟨xr, xm, xn, xd, ⟨xf, xg, xb⟩⟩).col : Int)] ∧ Whole w' (w.heap.size + 1) 67 [.int .i64 0, .int .i64 ar, .int .i64 ac, .int .i64 at_, .int .i32 xr, .int .i32 xm, .int .i32 xn, .int .u8 xd, .int .u8 xf, .int .u8 xg, .int .u8 xb, .int .i32 am, .int .u8 pf, .int .u8 pg, .int .u8 pb, .slice Al nl cl]) 13 [(2, 0), (2, 2), (2, 10), (2, 3), (2, 5), (2, 7), (0, 1), (0, 4), (0, 6), (1, 8), (1, 9), (2, 12), (2, 11), (3, 13), (3, 14)] (⟨HN5.out.drewN 1, HX15.out.drewN 1⟩) ?_
   iterate 6 refine puL (h := ?_)
   refine stL (hy := fun w hS => by obtain ⟨f0, f1, f2, -⟩ := cells3 hS.1; go_simp <;> with_reducible rfl) (h := ?_)
   refine stL (hy := fun w hS => by obtain ⟨f0, f1, f2, f3, f4, f5, f6, f7, f8, f9, g0, g1, g2, g3, g4, g5, -⟩ := cells16 hS.2; go_simp <;> with_reducible rfl) (h := ?_)
   refine stL (hy := fun w hS => by obtain ⟨f0, f1, f2, f3, f4, f5, f6, f7, f8, f9, g0, g1, g2, g3, g4, g5, -⟩ := cells16 hS.2; go_simp <;> with_reducible rfl) (h := ?_)
   refine alL fun K hK => ?_
   go_wp2
   refine hK.out _ _ (⟨HN5.out.drewN 1, HX15.out.drewN 1⟩) ?_
   clear hK K
   refine alL fun K hK => ?_
   go_wp2_with fail
   refine (gput_any (HG5.out.later bd1) hC2 HS5.out.drew ar ac xr xm xn xd xf xg xb hxd hac).mono ?_
   rintro e k1 ⟨rfl, hg, ht⟩
   rw [HKK.out]
   have HGz := hide hg
   have HLz := hide ((HL5.out.drewN 1).turn (HG5.out.later bd1) ht)
   have HTz := hide (HT5.out.trans (Trn.ofB ((Below.refl W5.heap.size W5).drewN 1) ht) (.inl rfl))
   have HNz := hide (ht.whole HN5.out.drew (by omega) (by omega) (by omega))
   have HX1z := hide (ht.whole HX15.out.drew (by omega) (by omega) (by omega))
   have HX2z := hide (ht.whole HX25.out.drew (by omega) (by omega) (by omega))
   clear hg ht; clear a0 a1 a2 a3 a4 a5 a6 a7 a8 a9 b0 b1 b2 b3 b4 b5 la p0 p1 p2 lp y0 y1 y2 ly
   obtain ⟨z0, z1, z2, lz⟩ := cells3 HX2z.out
   have hzf := HX2z.out.frozen
   go_wp2
   refine hK.out _ _ (⟨HNz.out, HX1z.out⟩) ?_
   clear hK K
   refine puL (h := ?_)
   refine puL (h := ?_)
   refine laL fun K hK => ?_
   go_wp2
   refine hK.out _ _ ?_
   clear hK K
   refine laL fun K hK => ?_
   go_wp2
   refine hK.out _ _ ?_
   clear hK K
   refine chainL_nil ?_
   go_wp2
   refine retG3 Tryz.results24 rfl rfl rfl rfl (put3 HX2z.out _ _ _) ?_
   exact did_end HGz.out HLz.out HOK.out HTz.out (.inl rfl) (.inl rfl) (.inl rfl) HX2z.out (by omega) _ _ _
  ·intro K hK
   go_wp2
   refine hK.out _ _ (Bk1.alloc Bk1.size _) ?_
   clear hK K
   obtain ⟨k1a, hk1a⟩ := exq (k1.alloc (.cells #[.slice none 0 0, .int .i64 0, .int .i64 0] 26))
   have Bk1a : Below W0.heap.size W0 k1a := by rw [← hk1a]; exact Bk1.alloc Bk1.size _
   have HZn : Hid (Whole k1a k1.heap.size 26 [.slice none 0 0, .int .i64 0, .int .i64 0]) := by unfold Hid; rw [← hk1a]; exact Whole.new _ _ _
   rw [hk1a]
   clear hk1a
   refine alT fun K hK => ?_
   go_wp2_with fail
   refine (rgput_any A R C cap g k1a (HL0.out.below Bk1a) HGO.out ar ac xr xm xn xd xf xg xb hxd hac).mono ?_
   rintro e k2 ⟨A5, cap5, rfl, hl, hb⟩
   rw [HKK.out]
   have Bk2 : Below W0.heap.size W0 k2 := Bk1a.trans (hb.mono Bk1a.size)
   have HLa := hide hl
   have HZn := hide (HZn.out.later hb)
   obtain ⟨n0, n1, n2, ln⟩ := cells3 HZn.out
   have hnf := HZn.out.frozen
   clear hl hb; go_wp2
   refine hK.out _ _ (Bk2) ?_
   clear hK K
   iterate 3 refine stT (h := ?_)
   refine alT fun K hK => ?_
   go_wp2
   refine hK.out _ _ (below_put3 Bk2 (Bk1.size) _ _ _) ?_
   clear hK K
   refine alT fun K hK => ?_
   go_wp2
   refine hK.out _ _ (below_put3 Bk2 (Bk1.size) _ _ _) ?_
   clear hK K
   refine tree_done ?_
   obtain ⟨Q10, hQ⟩ := exq (k1.heap.size)
   rw [hQ] at HZn
   obtain ⟨W5, hW5⟩ := exq (((k2.setCell ⟨Q10, 0, none⟩ (.slice A5 R cap5)).setCell ⟨Q10, 1, none⟩ (.int .i64 ((putG g ar ac ⟨xr, xm, xn, xd, ⟨xf, xg, xb⟩⟩).row : Int))).setCell ⟨Q10, 2, none⟩ (.int .i64 ((putG g ar ac ⟨xr, xm, xn, xd, ⟨xf, xg, xb⟩⟩).col : Int)))
   have hb5 : Below W0.heap.size W0 W5 := by rw [← hW5]; exact below_put3 Bk2 (by rw [← hQ]; exact Bk1.size) _ _ _
   have HN5 : Hid (Whole W5 Q10 26 [.slice A5 R cap5, .int .i64 ((putG g ar ac ⟨xr, xm, xn, xd, ⟨xf, xg, xb⟩⟩).row : Int), .int .i64 ((putG g ar ac ⟨xr, xm, xn, xd, ⟨xf, xg, xb⟩⟩).col : Int)]) := by unfold Hid; rw [← hW5]; exact put3 HZn.out _ _ _
   have hq10 : w.heap.size ≤ Q10 := by rw [← hQ]; exact Nat.le_trans HB0.out.size Bk1.size
   have HL5 : Hid (Lns W5 A5 (putG g ar ac ⟨xr, xm, xn, xd, ⟨xf, xg, xb⟩⟩).ls) := by unfold Hid; rw [← hW5]; exact HLa.out.put3 HZn.out (by decide) (by decide) _ _ _
   have HG5 := hide (HG0.out.later hb5)
   have HS5 := hide (HS0.out.below hb5)
   have HT5 := hide (Trn.of_below (G := G) (L := L) (M := M) (HB0.out.trans (hb5.mono HB0.out.size)))
   have HX15 := hide (HX1.out.later hb5)
   have HX25 := hide (HX2.out.later hb5)
   have HX35 := hide (HX3.out.later hb5)
   have HX05 := hide (HX0.out.later hb5)
   have HW5 := hide hW5; have HQ10 := hide hQ; clear hW5 hb5 hQ Bk1 Bk2 n0 n1 n2 ln hnf; clear a0 a1 a2 a3 a4 a5 a6 a7 a8 a9 b0 b1 b2 b3 b4 b5 la p0 p1 p2 lp y0 y1 y2 ly
   obtain ⟨a0, a1, a2, a3, a4, a5, a6, a7, a8, a9, b0, b1, b2, b3, b4, b5, la⟩ := cells16 HX15.out
   obtain ⟨p0, p1, p2, lp⟩ := cells3 HX05.out
   obtain ⟨y0, y1, y2, ly⟩ := cells3 HX35.out
   simp only [HQ10.out, HW5.out]
   go_wp2
   refine rgL (fun w' => Whole w' Q10 26 [.slice A5 R cap5, .int .i64 ((putG g ar ac ⟨xr, xm, xn, xd, ⟨xf, xg, xb⟩⟩).row : Int), .int .i64 ((putG g ar ac ⟨xr, xm, xn, xd, ⟨xf, xg, xb⟩⟩).col : Int)] ∧ Whole w' (w.heap.size + 1) 67 [.int .i64 0, .int .i64 ar, .int .i64 ac, .int .i64 at_, .int .i32 xr, .int .i32 xm, .int .i32 xn, .int .u8 xd, .int .u8 xf, .int .u8 xg, .int .u8 xb, .int .i32 am, .int .u8 pf, .int .u8 pg, .int .u8 pb, .slice Al nl cl]) 13 [(2, 0), (2, 2), (2, 10), (2, 3), (2, 5), (2, 7), (0, 1), (0, 4), (0, 6), (1, 8), (1, 9), (2, 12), (2, 11), (3, 13), (3, 14)] (⟨HN5.out.drewN 1, HX15.out.drewN 1⟩) ?_
   iterate 6 refine puL (h := ?_)
   refine stL (hy := fun w hS => by obtain ⟨f0, f1, f2, -⟩ := cells3 hS.1; go_simp <;> with_reducible rfl) (h := ?_)
   refine stL (hy := fun w hS => by obtain ⟨f0, f1, f2, f3, f4, f5, f6, f7, f8, f9, g0, g1, g2, g3, g4, g5, -⟩ := cells16 hS.2; go_simp <;> with_reducible rfl) (h := ?_)
   refine stL (hy := fun w hS => by obtain ⟨f0, f1, f2, f3, f4, f5, f6, f7, f8, f9, g0, g1, g2, g3, g4, g5, -⟩ := cells16 hS.2; go_simp <;> with_reducible rfl) (h := ?_)
   refine alL fun K hK => ?_
   go_wp2
   refine hK.out _ _ (⟨HN5.out.drewN 1, HX15.out.drewN 1⟩) ?_
   clear hK K
   refine alL fun K hK => ?_
   go_wp2_with fail
   refine (gput_any (HG5.out.later bd1) hC2 HS5.out.drew ar ac xr xm xn xd xf xg xb hxd hac).mono ?_
   rintro e k1 ⟨rfl, hg, ht⟩
   rw [HKK.out]
   have HGz := hide hg
   have HLz := hide ((HL5.out.drewN 1).turn (HG5.out.later bd1) ht)
   have HTz := hide (HT5.out.trans (Trn.ofB ((Below.refl W5.heap.size W5).drewN 1) ht) (.inl rfl))
   have HNz := hide (ht.whole HN5.out.drew (by omega) (by omega) (by omega))
   have HX1z := hide (ht.whole HX15.out.drew (by omega) (by omega) (by omega))
   have HX2z := hide (ht.whole HX25.out.drew (by omega) (by omega) (by omega))
   clear hg ht; clear a0 a1 a2 a3 a4 a5 a6 a7 a8 a9 b0 b1 b2 b3 b4 b5 la p0 p1 p2 lp y0 y1 y2 ly
   obtain ⟨z0, z1, z2, lz⟩ := cells3 HX2z.out
   have hzf := HX2z.out.frozen
   go_wp2
   refine hK.out _ _ (⟨HNz.out, HX1z.out⟩) ?_
   clear hK K
   refine puL (h := ?_)
   refine puL (h := ?_)
   refine laL fun K hK => ?_
   go_wp2
   refine hK.out _ _ ?_
   clear hK K
   refine laL fun K hK => ?_
   go_wp2
   refine hK.out _ _ ?_
   clear hK K
   refine chainL_nil ?_
   go_wp2
   refine retG3 Tryz.results24 rfl rfl rfl rfl (put3 HX2z.out _ _ _) ?_
   exact did_end HGz.out HLz.out HOK.out HTz.out (.inl rfl) (.inl rfl) (.inl rfl) HX2z.out (by omega) _ _ _
 ·intro K hK
  go_wp2
  refine hK.out _ _ (((Below.refl _ _).alloc (Nat.le_refl _) _).drewN 1) ?_
  clear hK K
  obtain ⟨k0, hk0⟩ := exq ((W0.alloc (.cells #[.slice none 0 0, .int .i64 0, .int .i64 0] 26)).drew)
  have Bk0 : Below W0.heap.size W0 k0 := by rw [← hk0]; exact ((Below.refl _ _).alloc (Nat.le_refl _) _).drewN 1
  have HZn : Hid (Whole k0 W0.heap.size 26 [.slice none 0 0, .int .i64 0, .int .i64 0]) := by unfold Hid; rw [← hk0]; exact (Whole.new _ _ _).drewN 1
  rw [hk0]
  clear hk0
  refine alT fun K hK => ?_
  go_wp2_with fail
  refine (lof_v xr xm xn xd xf xg xb hxr hxm hxn _).mono ?_
  rintro e k1 ⟨rfl, hb⟩
  have Bk1 : Below W0.heap.size W0 k1 := Bk0.trans (hb.mono Bk0.size)
  have HZn := hide (HZn.out.later hb)
  clear hb; go_wp2
  refine hK.out _ _ (Bk1) ?_
  clear hK K
  refine alT fun K hK => ?_
  go_wp2_with fail
  refine (rgput_any A R C cap g k1 (HL0.out.below Bk1) HGO.out ar ac xr xm xn xd xf xg xb hxd hac).mono ?_
  rintro e k2 ⟨A5, cap5, rfl, hl, hb⟩
  rw [HKK.out]
  have Bk2 : Below W0.heap.size W0 k2 := Bk1.trans (hb.mono Bk1.size)
  have HLa := hide hl
  have HZn := hide (HZn.out.later hb)
  obtain ⟨n0, n1, n2, ln⟩ := cells3 HZn.out
  have hnf := HZn.out.frozen
  clear hl hb; go_wp2
  refine hK.out _ _ (Bk2) ?_
  clear hK K
  iterate 3 refine stT (h := ?_)
  refine alT fun K hK => ?_
  go_wp2
  refine hK.out _ _ (below_put3 Bk2 (Nat.le_refl _) _ _ _) ?_
  clear hK K
  refine alT fun K hK => ?_
  go_wp2
  refine hK.out _ _ (below_put3 Bk2 (Nat.le_refl _) _ _ _) ?_
  clear hK K
  refine tree_done ?_
  obtain ⟨Q10, hQ⟩ := exq (W0.heap.size)
  rw [hQ] at HZn
  obtain ⟨W5, hW5⟩ := exq (((k2.setCell ⟨Q10, 0, none⟩ (.slice A5 R cap5)).setCell ⟨Q10, 1, none⟩ (.int .i64 ((putG g ar ac ⟨xr, xm, xn, xd, ⟨xf, xg, xb⟩⟩).row : Int))).setCell ⟨Q10, 2, none⟩ (.int .i64 ((putG g ar ac ⟨xr, xm, xn, xd, ⟨xf, xg, xb⟩⟩).col : Int)))
  have hb5 : Below W0.heap.size W0 W5 := by rw [← hW5]; exact below_put3 Bk2 (by rw [← hQ]; exact Nat.le_refl _) _ _ _
  have HN5 : Hid (Whole W5 Q10 26 [.slice A5 R cap5, .int .i64 ((putG g ar ac ⟨xr, xm, xn, xd, ⟨xf, xg, xb⟩⟩).row : Int), .int .i64 ((putG g ar ac ⟨xr, xm, xn, xd, ⟨xf, xg, xb⟩⟩).col : Int)]) := by unfold Hid; rw [← hW5]; exact put3 HZn.out _ _ _
  have hq10 : w.heap.size ≤ Q10 := by rw [← hQ]; exact HB0.out.size
  have HL5 : Hid (Lns W5 A5 (putG g ar ac ⟨xr, xm, xn, xd, ⟨xf, xg, xb⟩⟩).ls) := by unfold Hid; rw [← hW5]; exact HLa.out.put3 HZn.out (by decide) (by decide) _ _ _
  have HG5 := hide (HG0.out.later hb5)
  have HS5 := hide (HS0.out.below hb5)
  have HT5 := hide (Trn.of_below (G := G) (L := L) (M := M) (HB0.out.trans (hb5.mono HB0.out.size)))
  have HX15 := hide (HX1.out.later hb5)
  have HX25 := hide (HX2.out.later hb5)
  have HX35 := hide (HX3.out.later hb5)
  have HX05 := hide (HX0.out.later hb5)
  have HW5 := hide hW5; have HQ10 := hide hQ; clear hW5 hb5 hQ Bk1 Bk2 Bk0 n0 n1 n2 ln hnf; clear a0 a1 a2 a3 a4 a5 a6 a7 a8 a9 b0 b1 b2 b3 b4 b5 la p0 p1 p2 lp y0 y1 y2 ly
  obtain ⟨a0, a1, a2, a3, a4, a5, a6, a7, a8, a9, b0, b1, b2, b3, b4, b5, la⟩ := cells16 HX15.out
  obtain ⟨p0, p1, p2, lp⟩ := cells3 HX05.out
  obtain ⟨y0, y1, y2, ly⟩ := cells3 HX35.out
  simp only [HQ10.out, HW5.out]
  go_wp2
  refine rgL (fun w' => Whole w' Q10 26 [.slice A5 R cap5, .int .i64 ((putG g ar ac ⟨xr, xm, xn, xd, ⟨xf, xg, xb⟩⟩).row : Int), .int .i64 ((putG g ar ac ⟨xr, xm, xn, xd, ⟨xf, xg, xb⟩⟩).col : Int)] ∧ Whole w' (w.heap.size + 1) 67 [.int .i64 0, .int .i64 ar, .int .i64 ac, .int .i64 at_, .int .i32 xr, .int .i32 xm, .int .i32 xn, .int .u8 xd, .int .u8 xf, .int .u8 xg, .int .u8 xb, .int .i32 am, .int .u8 pf, .int .u8 pg, .int .u8 pb, .slice Al nl cl]) 13 [(2, 0), (2, 2), (2, 10), (2, 3), (2, 5), (2, 7), (0, 1), (0, 4), (0, 6), (1, 8), (1, 9), (2, 12), (2, 11), (3, 13), (3, 14)] (⟨HN5.out.drewN 1, HX15.out.drewN 1⟩) ?_
  iterate 6 refine puL (h := ?_)
  refine stL (hy := fun w hS => by obtain ⟨f0, f1, f2, -⟩ := cells3 hS.1; go_simp <;> with_reducible rfl) (h := ?_)
  refine stL (hy := fun w hS => by obtain ⟨f0, f1, f2, f3, f4, f5, f6, f7, f8, f9, g0, g1, g2, g3, g4, g5, -⟩ := cells16 hS.2; go_simp <;> with_reducible rfl) (h := ?_)
  refine stL (hy := fun w hS => by obtain ⟨f0, f1, f2, f3, f4, f5, f6, f7, f8, f9, g0, g1, g2, g3, g4, g5, -⟩ := cells16 hS.2; go_simp <;> with_reducible rfl) (h := ?_)
  refine alL fun K hK => ?_
  go_wp2
  refine hK.out _ _ (⟨HN5.out.drewN 1, HX15.out.drewN 1⟩) ?_
  clear hK K
  refine alL fun K hK => ?_
  go_wp2_with fail
  refine (gput_any (HG5.out.later bd1) hC2 HS5.out.drew ar ac xr xm xn xd xf xg xb hxd hac).mono ?_
  rintro e k1 ⟨rfl, hg, ht⟩
  rw [HKK.out]
  have HGz := hide hg
  have HLz := hide ((HL5.out.drewN 1).turn (HG5.out.later bd1) ht)
  have HTz := hide (HT5.out.trans (Trn.ofB ((Below.refl W5.heap.size W5).drewN 1) ht) (.inl rfl))
  have HNz := hide (ht.whole HN5.out.drew (by omega) (by omega) (by omega))
  have HX1z := hide (ht.whole HX15.out.drew (by omega) (by omega) (by omega))
  have HX2z := hide (ht.whole HX25.out.drew (by omega) (by omega) (by omega))
  clear hg ht; clear a0 a1 a2 a3 a4 a5 a6 a7 a8 a9 b0 b1 b2 b3 b4 b5 la p0 p1 p2 lp y0 y1 y2 ly
  obtain ⟨z0, z1, z2, lz⟩ := cells3 HX2z.out
  have hzf := HX2z.out.frozen
  go_wp2
  refine hK.out _ _ (⟨HNz.out, HX1z.out⟩) ?_
  clear hK K
  refine puL (h := ?_)
  refine puL (h := ?_)
  refine laL fun K hK => ?_
  go_wp2
  refine hK.out _ _ ?_
  clear hK K
  refine laL fun K hK => ?_
  go_wp2
  refine hK.out _ _ ?_
  clear hK K
  refine chainL_nil ?_
  go_wp2
  refine retG3 Tryz.results24 rfl rfl rfl rfl (put3 HX2z.out _ _ _) ?_
  exact did_end HGz.out HLz.out HOK.out HTz.out (.inl rfl) (.inl rfl) (.inl rfl) HX2z.out (by omega) _ _ _
end
end Go.Proofs.YtoddfaoifnkhlaaGreatDoor
