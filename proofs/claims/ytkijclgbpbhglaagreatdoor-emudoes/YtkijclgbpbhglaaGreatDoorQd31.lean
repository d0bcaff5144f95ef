/-
  Contracts and plain mathematics of PStepB, PStepC.
-/
import Derived.Test.YtkijclgbpbhglaaGreatDoorQd29
namespace Go.Proofs.YtkijclgbpbhglaaGreatDoor
set_option maxRecDepth 100000
set_option linter.unusedVariables false
set_option maxHeartbeats 8000000
section
open Go.ChangeShapes Go.WideShapes Go.ChangeAt Go.RowKit
theorem rpstep_5 (p : Ps) (hok : PsOk p) (A : Option Addr) (ln c : Nat) (A' : Option Addr) (lh c' : Nat) (es : List Ev) (Ao : Option Addr) (no co : Nat) (w : World) (hp : Dp w p A ln c A' lh c') (ho : Evo w es Ao no co) (hl : no ≤ 100000) (hln : ln ≤ 10000) (b : Int) (b0 : 0 ≤ b) (b1 : b ≤ 255) (hb : (32 ≤ b ∧ b < 127) ∧ p.st = 1) :
  Calls Tryz.prog 89 #[.agg #[.int .i64 p.st, .slice A ln c, .slice A' lh c'], .slice Ao no co, .int .u8 b] w (DGave w (stepP p b).1 (es ++ (stepP p b).2)) := by
 obtain ⟨W0, hW0⟩ := exq ((w.alloc (.cells #[.int .i64 p.st, .slice A ln c, .slice A' lh c'] 36)).alloc (.cells #[.int .i64 0, .slice none 0 0, .slice none 0 0] 36))
 have HB0 : Hid (Below w.heap.size w W0) := by unfold Hid; rw [← hW0]; exact two_new _ _ _ _ _
 have HP0 : Hid (Whole W0 w.heap.size 36 [.int .i64 p.st, .slice A ln c, .slice A' lh c']) := by unfold Hid; rw [← hW0]; exact (Whole.new _ _ _).alloc _
 have HQ0 : Hid (Whole W0 (w.heap.size + 1) 36 [.int .i64 0, .slice none 0 0, .slice none 0 0]) := by unfold Hid; rw [← hW0]; exact whole_snd _ _ _ _
 have HSZ : Hid (w.heap.size + 1 + 1 = W0.heap.size) := by unfold Hid; rw [← hW0]; simp
 have HDw := hide hp; have HOw := hide ho
 have HD := hide (hp.below HB0.out)
 have HO := hide (ho.below HB0.out)
 have HW0 := hide hW0; clear hW0 hp ho
 have hne : ¬ w.heap.size = w.heap.size + 1 := by omega
 have hne' : ¬ w.heap.size + 1 = w.heap.size := by omega
 obtain ⟨⟨h32, h127l⟩, hs⟩ := hb
 have h128 : b < 128 := by omega
 have h24 : (b == 24) = false := by simp; omega
 have h26 : (b == 26) = false := by simp; omega
 have h27 : (b == 27) = false := by simp; omega
 have h127 : (b == 127) = false := by simp; omega
 rw [step_s1 (p := p) (b := b) (by omega) (by omega) hs, hs]
 rcases (by omega : b = 91 ∨ (b ≠ 91 ∧ b ≤ 47) ∨ (b ≠ 91 ∧ 47 < b)) with g1 | ⟨g1, g2⟩ | ⟨g1, g2⟩
 ·subst g1
  go_enter Tryz.func89, Tryz.ntmps89
  go_wp2
  refine retP2 Tryz.results89 rfl rfl rfl (whole_snd w _ 36 [.int .i64 (3), .slice A ln c, .slice A' lh c']) ?_
  have hb9 := two_new w 36 36 [.int .i64 (3), .slice A ln c, .slice A' lh c'] [.int .i64 (3), .slice A ln c, .slice A' lh c']
  have hd := HDw.out.below hb9
  refine ⟨A, ln, c, A', lh, c', Ao, no, co, rfl, ⟨hd.n, hd.h, hd.nl, hd.hl, hd.c0, hd.c1, hd.c2, hd.d0⟩, ?_, hb9⟩
  first | exact HOw.out.below hb9 | (rw [List.append_nil]; exact HOw.out.below hb9)
 ·have g3 : (b == 91) = false := by simp; omega
  have HX : Hid (bescN b = 2) := by unfold Hid bescN bbetN; rw [if_neg g1, if_pos g2]
  rw [HX.out]
  go_enter Tryz.func89, Tryz.ntmps89
  go_wp2
  refine retP2 Tryz.results89 rfl rfl rfl (whole_snd w _ 36 [.int .i64 (2), .slice A ln c, .slice A' lh c']) ?_
  have hb9 := two_new w 36 36 [.int .i64 (2), .slice A ln c, .slice A' lh c'] [.int .i64 (2), .slice A ln c, .slice A' lh c']
  have hd := HDw.out.below hb9
  refine ⟨A, ln, c, A', lh, c', Ao, no, co, rfl, ⟨hd.n, hd.h, hd.nl, hd.hl, hd.c0, hd.c1, hd.c2, hd.d0⟩, ?_, hb9⟩
  first | exact HOw.out.below hb9 | (rw [List.append_nil]; exact HOw.out.below hb9)
 ·have g3 : (b == 91) = false := by simp; omega
  have HX : Hid (bescN b = 0) := by unfold Hid bescN bbetN; rw [if_neg g1, if_neg (by omega)]
  rw [HX.out]
  go_enter Tryz.func89, Tryz.ntmps89
  go_wp2
  refine retP2 Tryz.results89 rfl rfl rfl (whole_snd w _ 36 [.int .i64 (0), .slice A ln c, .slice A' lh c']) ?_
  have hb9 := two_new w 36 36 [.int .i64 (0), .slice A ln c, .slice A' lh c'] [.int .i64 (0), .slice A ln c, .slice A' lh c']
  have hd := HDw.out.below hb9
  refine ⟨A, ln, c, A', lh, c', Ao, no, co, rfl, ⟨hd.n, hd.h, hd.nl, hd.hl, hd.c0, hd.c1, hd.c2, hd.d0⟩, ?_, hb9⟩
  first | exact HOw.out.below hb9 | (rw [List.append_nil]; exact HOw.out.below hb9)
theorem rpstep_6 (p : Ps) (hok : PsOk p) (A : Option Addr) (ln c : Nat) (A' : Option Addr) (lh c' : Nat) (es : List Ev) (Ao : Option Addr) (no co : Nat) (w : World) (hp : Dp w p A ln c A' lh c') (ho : Evo w es Ao no co) (hl : no ≤ 100000) (hln : ln ≤ 10000) (b : Int) (b0 : 0 ≤ b) (b1 : b ≤ 255) (hb : (32 ≤ b ∧ b < 127) ∧ p.st = 2) :
  Calls Tryz.prog 89 #[.agg #[.int .i64 p.st, .slice A ln c, .slice A' lh c'], .slice Ao no co, .int .u8 b] w (DGave w (stepP p b).1 (es ++ (stepP p b).2)) := by
 obtain ⟨W0, hW0⟩ := exq ((w.alloc (.cells #[.int .i64 p.st, .slice A ln c, .slice A' lh c'] 36)).alloc (.cells #[.int .i64 0, .slice none 0 0, .slice none 0 0] 36))
 have HB0 : Hid (Below w.heap.size w W0) := by unfold Hid; rw [← hW0]; exact two_new _ _ _ _ _
 have HP0 : Hid (Whole W0 w.heap.size 36 [.int .i64 p.st, .slice A ln c, .slice A' lh c']) := by unfold Hid; rw [← hW0]; exact (Whole.new _ _ _).alloc _
 have HQ0 : Hid (Whole W0 (w.heap.size + 1) 36 [.int .i64 0, .slice none 0 0, .slice none 0 0]) := by unfold Hid; rw [← hW0]; exact whole_snd _ _ _ _
 have HSZ : Hid (w.heap.size + 1 + 1 = W0.heap.size) := by unfold Hid; rw [← hW0]; simp
 have HDw := hide hp; have HOw := hide ho
 have HD := hide (hp.below HB0.out)
 have HO := hide (ho.below HB0.out)
 have HW0 := hide hW0; clear hW0 hp ho
 have hne : ¬ w.heap.size = w.heap.size + 1 := by omega
 have hne' : ¬ w.heap.size + 1 = w.heap.size := by omega
 obtain ⟨⟨h32, h127l⟩, hs⟩ := hb
 have h128 : b < 128 := by omega
 have h24 : (b == 24) = false := by simp; omega
 have h26 : (b == 26) = false := by simp; omega
 have h27 : (b == 27) = false := by simp; omega
 have h127 : (b == 127) = false := by simp; omega
 rw [step_s2 (p := p) (b := b) (by omega) (by omega) hs, hs]
 by_cases g2 : b ≤ 47
 ·have HX : Hid (bbetN b = 2) := by unfold Hid bbetN; rw [if_pos g2]
  rw [HX.out]
  go_enter Tryz.func89, Tryz.ntmps89
  go_wp2
  refine retP2 Tryz.results89 rfl rfl rfl (whole_snd w _ 36 [.int .i64 (2), .slice A ln c, .slice A' lh c']) ?_
  have hb9 := two_new w 36 36 [.int .i64 (2), .slice A ln c, .slice A' lh c'] [.int .i64 (2), .slice A ln c, .slice A' lh c']
  have hd := HDw.out.below hb9
  refine ⟨A, ln, c, A', lh, c', Ao, no, co, rfl, ⟨hd.n, hd.h, hd.nl, hd.hl, hd.c0, hd.c1, hd.c2, hd.d0⟩, ?_, hb9⟩
  first | exact HOw.out.below hb9 | (rw [List.append_nil]; exact HOw.out.below hb9)
 ·have HX : Hid (bbetN b = 0) := by unfold Hid bbetN; rw [if_neg g2]
  rw [HX.out]
  go_enter Tryz.func89, Tryz.ntmps89
  go_wp2
  refine retP2 Tryz.results89 rfl rfl rfl (whole_snd w _ 36 [.int .i64 (0), .slice A ln c, .slice A' lh c']) ?_
  have hb9 := two_new w 36 36 [.int .i64 (0), .slice A ln c, .slice A' lh c'] [.int .i64 (0), .slice A ln c, .slice A' lh c']
  have hd := HDw.out.below hb9
  refine ⟨A, ln, c, A', lh, c', Ao, no, co, rfl, ⟨hd.n, hd.h, hd.nl, hd.hl, hd.c0, hd.c1, hd.c2, hd.d0⟩, ?_, hb9⟩
  first | exact HOw.out.below hb9 | (rw [List.append_nil]; exact HOw.out.below hb9)
theorem rpstep_7 (p : Ps) (hok : PsOk p) (A : Option Addr) (ln c : Nat) (A' : Option Addr) (lh c' : Nat) (es : List Ev) (Ao : Option Addr) (no co : Nat) (w : World) (hp : Dp w p A ln c A' lh c') (ho : Evo w es Ao no co) (hl : no ≤ 100000) (hln : ln ≤ 10000) (b : Int) (b0 : 0 ≤ b) (b1 : b ≤ 255) (hb : (32 ≤ b ∧ b < 127) ∧ p.st = 4) :
  Calls Tryz.prog 89 #[.agg #[.int .i64 p.st, .slice A ln c, .slice A' lh c'], .slice Ao no co, .int .u8 b] w (DGave w (stepP p b).1 (es ++ (stepP p b).2)) := by
 obtain ⟨W0, hW0⟩ := exq ((w.alloc (.cells #[.int .i64 p.st, .slice A ln c, .slice A' lh c'] 36)).alloc (.cells #[.int .i64 0, .slice none 0 0, .slice none 0 0] 36))
 have HB0 : Hid (Below w.heap.size w W0) := by unfold Hid; rw [← hW0]; exact two_new _ _ _ _ _
 have HP0 : Hid (Whole W0 w.heap.size 36 [.int .i64 p.st, .slice A ln c, .slice A' lh c']) := by unfold Hid; rw [← hW0]; exact (Whole.new _ _ _).alloc _
 have HQ0 : Hid (Whole W0 (w.heap.size + 1) 36 [.int .i64 0, .slice none 0 0, .slice none 0 0]) := by unfold Hid; rw [← hW0]; exact whole_snd _ _ _ _
 have HSZ : Hid (w.heap.size + 1 + 1 = W0.heap.size) := by unfold Hid; rw [← hW0]; simp
 have HDw := hide hp; have HOw := hide ho
 have HD := hide (hp.below HB0.out)
 have HO := hide (ho.below HB0.out)
 have HW0 := hide hW0; clear hW0 hp ho
 have hne : ¬ w.heap.size = w.heap.size + 1 := by omega
 have hne' : ¬ w.heap.size + 1 = w.heap.size := by omega
 obtain ⟨⟨h32, h127l⟩, hs⟩ := hb
 have h128 : b < 128 := by omega
 have h24 : (b == 24) = false := by simp; omega
 have h26 : (b == 26) = false := by simp; omega
 have h27 : (b == 27) = false := by simp; omega
 have h127 : (b == 127) = false := by simp; omega
 rw [step_s4 (p := p) (b := b) (by omega) (by omega) hs, hs]
 by_cases g2 : 64 ≤ b
 ·rw [if_pos g2]
  go_enter Tryz.func89, Tryz.ntmps89
  go_wp2
  refine retP2 Tryz.results89 rfl rfl rfl (whole_snd w _ 36 [.int .i64 (0), .slice A ln c, .slice A' lh c']) ?_
  have hb9 := two_new w 36 36 [.int .i64 (0), .slice A ln c, .slice A' lh c'] [.int .i64 (0), .slice A ln c, .slice A' lh c']
  have hd := HDw.out.below hb9
  refine ⟨A, ln, c, A', lh, c', Ao, no, co, rfl, ⟨hd.n, hd.h, hd.nl, hd.hl, hd.c0, hd.c1, hd.c2, hd.d0⟩, ?_, hb9⟩
  first | exact HOw.out.below hb9 | (rw [List.append_nil]; exact HOw.out.below hb9)
 ·rw [if_neg g2]
  go_enter Tryz.func89, Tryz.ntmps89
  go_wp2
  refine retP2 Tryz.results89 rfl rfl rfl (whole_snd w _ 36 [.int .i64 (4), .slice A ln c, .slice A' lh c']) ?_
  have hb9 := two_new w 36 36 [.int .i64 (4), .slice A ln c, .slice A' lh c'] [.int .i64 (4), .slice A ln c, .slice A' lh c']
  have hd := HDw.out.below hb9
  refine ⟨A, ln, c, A', lh, c', Ao, no, co, rfl, ⟨hd.n, hd.h, hd.nl, hd.hl, hd.c0, hd.c1, hd.c2, hd.d0⟩, ?_, hb9⟩
  first | exact HOw.out.below hb9 | (rw [List.append_nil]; exact HOw.out.below hb9)
theorem rpstep_8 (p : Ps) (hok : PsOk p) (A : Option Addr) (ln c : Nat) (A' : Option Addr) (lh c' : Nat) (es : List Ev) (Ao : Option Addr) (no co : Nat) (w : World) (hp : Dp w p A ln c A' lh c') (ho : Evo w es Ao no co) (hl : no ≤ 100000) (hln : ln ≤ 10000) (b : Int) (b0 : 0 ≤ b) (b1 : b ≤ 255) (hb : (32 ≤ b ∧ b < 127) ∧ p.st = 3) :
  Calls Tryz.prog 89 #[.agg #[.int .i64 p.st, .slice A ln c, .slice A' lh c'], .slice Ao no co, .int .u8 b] w (DGave w (stepP p b).1 (es ++ (stepP p b).2)) := by
 obtain ⟨W0, hW0⟩ := exq ((w.alloc (.cells #[.int .i64 p.st, .slice A ln c, .slice A' lh c'] 36)).alloc (.cells #[.int .i64 0, .slice none 0 0, .slice none 0 0] 36))
 have HB0 : Hid (Below w.heap.size w W0) := by unfold Hid; rw [← hW0]; exact two_new _ _ _ _ _
 have HP0 : Hid (Whole W0 w.heap.size 36 [.int .i64 p.st, .slice A ln c, .slice A' lh c']) := by unfold Hid; rw [← hW0]; exact (Whole.new _ _ _).alloc _
 have HQ0 : Hid (Whole W0 (w.heap.size + 1) 36 [.int .i64 0, .slice none 0 0, .slice none 0 0]) := by unfold Hid; rw [← hW0]; exact whole_snd _ _ _ _
 have HSZ : Hid (w.heap.size + 1 + 1 = W0.heap.size) := by unfold Hid; rw [← hW0]; simp
 have HDw := hide hp; have HOw := hide ho
 have HD := hide (hp.below HB0.out)
 have HO := hide (ho.below HB0.out)
 have HW0 := hide hW0; clear hW0 hp ho
 have hne : ¬ w.heap.size = w.heap.size + 1 := by omega
 have hne' : ¬ w.heap.size + 1 = w.heap.size := by omega
 obtain ⟨⟨h32, h127l⟩, hs⟩ := hb
 have h128 : b < 128 := by omega
 have h24 : (b == 24) = false := by simp; omega
 have h26 : (b == 26) = false := by simp; omega
 have h27 : (b == 27) = false := by simp; omega
 have h127 : (b == 127) = false := by simp; omega
 rw [hs] at HW0 HP0
 rcases (by omega : (48 ≤ b ∧ b ≤ 57) ∨ b = 59 ∨ 64 ≤ b ∨ (b < 64 ∧ ¬ (48 ≤ b ∧ b ≤ 57) ∧ b ≠ 59)) with ⟨h1, h2⟩ | h1 | h1 | ⟨h1, h2, h3⟩
 ·rw [step_dig h1 h2 hs]
  have hk := hok.num
  go_enter Tryz.func89, Tryz.ntmps89
  go_wp2_with fail
  rw [HW0.out]
  refine (rpdigits_any A ln c p.n W0 HD.out.n.ints HD.out.nl HD.out.c1 HD.out.c2 HD.out.c0 hk (by omega) (b - 48) (by omega) (by omega)).mono ?_
  rintro e w1 ⟨v, rfl, hov⟩
  obtain ⟨A7, c7, rfl, hin, hc1, hc0, hc2⟩ := hov.typed (C := 0)
  obtain ⟨n7, hn7⟩ := exq ((digN p.n (b - 48)).length)
  rw [hn7]
  rw [hn7] at hc1
  have HBW := hide hov.bel
  have HPz := hide (HP0.out.later HBW.out)
  have HQz := hide (HQ0.out.later HBW.out)
  have HBz := hide (HB0.out.trans (HBW.out.mono HB0.out.size))
  have HDz := hide (HD.out.below HBW.out)
  have HOz := hide (HO.out.below HBW.out)
  have HNz := hide hin; have HLz := hide hn7; have HC0 := hide hc0; have HC1 := hide hc1; have HC2 := hide hc2; clear hov hin hn7 hc0 hc1 hc2
  have HPb : Hid (Whole (w1.setCell ⟨w.heap.size, 1, none⟩ (.slice A7 n7 c7)) w.heap.size 36 [.int .i64 3, .slice A7 n7 c7, .slice A' lh c']) := HPz.out.put 1 _
  have HQb : Hid (Whole (w1.setCell ⟨w.heap.size, 1, none⟩ (.slice A7 n7 c7)) (w.heap.size + 1) 36 [.int .i64 0, .slice none 0 0, .slice none 0 0]) := HQz.out.other hne'
  have HSb : Hid (∀ t, t ≠ 36 → Stays t w1 (w1.setCell ⟨w.heap.size, 1, none⟩ (.slice A7 n7 c7))) := fun t ht => Stays.put HPz.out ht
  have HBb : Hid (Below w.heap.size w (w1.setCell ⟨w.heap.size, 1, none⟩ (.slice A7 n7 c7))) := HBz.out.setCell (p := ⟨w.heap.size, 1, none⟩) (Nat.le_refl _) _
  obtain ⟨a0, a1, a2, la⟩ := cells3 HPz.out
  have za := HPz.out.frozen
  obtain ⟨d0_, d1_, d2_, ld⟩ := cells3 HPb.out
  obtain ⟨q0_, q1_, q2_, lq⟩ := cells3 HQb.out
  have zq := HQb.out.frozen
  go_wp2
  refine retP2 Tryz.results89 rfl rfl rfl (put3 HQb.out _ _ _) ?_
  have hst : ∀ t, t ≠ 36 → Stays t w1 _ := fun t ht => (HSb.out t ht).trans (stays_put3 HQb.out ht (.int .i64 3) (.slice A7 n7 c7) (.slice A' lh c'))
  have hd := HDz.out.keep (hst 3 (by decide)) (hst 5 (by decide))
  have hn9 := HNz.out.keep (w' := _) (fun _ q => absurd q (by omega)) (hst 3 (by decide))
  refine ⟨A7, n7, c7, A', lh, c', Ao, no, co, rfl, ⟨hn9, hd.h, HLz.out, hd.hl, HC0.out, HC1.out, HC2.out, hd.d0⟩, ?_, below_put3 HBb.out (by omega) _ _ _⟩
  first | exact HOz.out.keep (hst 3 (by decide)) (hst 60 (by decide)) | (rw [List.append_nil]; exact HOz.out.keep (hst 3 (by decide)) (hst 60 (by decide)))
 ·subst h1
  rw [step_semi rfl hs]
  have HLN := hide HDw.out.nl
  by_cases g0 : ln = 0
  ·subst g0
   have HX : Hid (semiN p.n = [-1, -1]) := by unfold Hid semiN; rw [if_pos (List.eq_nil_of_length_eq_zero HLN.out)]
   rw [HX.out]
   go_enter Tryz.func89, Tryz.ntmps89
   go_wp2
   have hb9 : Below w.heap.size w (((w.alloc (.cells #[.int .i64 3, .slice (some ⟨w.heap.size + 1 + 1, 0, none⟩) 2 2, .slice A' lh c'] 36)).alloc (.cells #[.int .i64 3, .slice (some ⟨w.heap.size + 1 + 1, 0, none⟩) 2 2, .slice A' lh c'] 36)).alloc (.cells #[.int .i64 (-1), .int .i64 (-1)] 3)) := (two_new _ _ _ _ _).alloc (by simp; omega) _
   refine retP2 Tryz.results89 rfl rfl rfl ((whole_snd w _ 36 [.int .i64 3, .slice (some ⟨w.heap.size + 1 + 1, 0, none⟩) 2 2, .slice A' lh c']).alloc _) ?_
   have hd := HDw.out.below hb9
   have hi9 : IntsT 0 3 .i64 (((w.alloc (.cells #[.int .i64 3, .slice (some ⟨w.heap.size + 1 + 1, 0, none⟩) 2 2, .slice A' lh c'] 36)).alloc (.cells #[.int .i64 3, .slice (some ⟨w.heap.size + 1 + 1, 0, none⟩) 2 2, .slice A' lh c'] 36)).alloc (.cells #[.int .i64 (-1), .int .i64 (-1)] 3)) (some ⟨w.heap.size + 1 + 1, 0, none⟩) [-1, -1] := by
    have := IntsT.new (C := 0) (k := .i64) ((w.alloc (.cells #[.int .i64 3, .slice (some ⟨w.heap.size + 1 + 1, 0, none⟩) 2 2, .slice A' lh c'] 36)).alloc (.cells #[.int .i64 3, .slice (some ⟨w.heap.size + 1 + 1, 0, none⟩) 2 2, .slice A' lh c'] 36)) 3 [-1, -1]
    simpa using this
   refine ⟨some ⟨w.heap.size + 1 + 1, 0, none⟩, 2, 2, A', lh, c', Ao, no, co, rfl, ⟨hi9, hd.h, rfl, hd.hl, (fun h => by cases h), Nat.le_refl _, by unfold maxLen; omega, hd.d0⟩, ?_, hb9⟩
   first | exact HOw.out.below hb9 | (rw [List.append_nil]; exact HOw.out.below hb9)
  ·have HX : Hid (semiN p.n = p.n ++ [-1]) := by unfold Hid semiN; rw [if_neg (by intro e; have := HLN.out; rw [e] at this; exact g0 this.symm)]
   rw [HX.out]
   have g1 : ((ln : Int) == 0) = false := by simp; omega
   obtain ⟨a0, a1, a2, la⟩ := cells3 HP0.out
   go_enter Tryz.func89, Tryz.ntmps89
   go_wp2_with (at_builtin; refine stopw ?_)
   unfold Hid
   rw [HW0.out, HSZ.out]
   refine wpList_cat elemInts rfl _ _ rfl rfl rfl (Own.empty W0 3 .i64) ((HD.out.below ((Below.refl _ _).alloc (Nat.le_refl _) _)).n.ints) HD.out.nl HD.out.c0 (by simp; omega) (by omega) ?_
   intro v1 w1 h1
   rw [List.nil_append] at h1
   obtain ⟨A5, c5, rfl, -, -, -, -⟩ := h1.typed (C := 0)
   have HV1 := hide h1
   have HLV : Hid (p.n.length ≤ 1000000) := by unfold Hid; have := HLN.out; omega
   clear h1 a0 a1 a2 la
   go_wp2_with (at_builtin; refine stopw ?_)
   unfold Hid
   refine wpList_push elemInts rfl _ _ rfl rfl rfl HV1.out HLV.out (by omega) ?_
   intro v2 w2 h2
   obtain ⟨A7, c7, rfl, hin, hc1, hc0, hc2⟩ := h2.typed (C := 0)
   obtain ⟨n7, hn7⟩ := exq ((p.n ++ [-1]).length)
   rw [hn7]
   rw [hn7] at hc1
   have HBW := hide h2.bel
   have HPz := hide (HP0.out.later HBW.out)
   have HQz := hide (HQ0.out.later HBW.out)
   have HBz := hide (HB0.out.trans (HBW.out.mono HB0.out.size))
   have HDz := hide (HD.out.below HBW.out)
   have HOz := hide (HO.out.below HBW.out)
   have HNz := hide hin; have HLz := hide hn7; have HC0 := hide hc0; have HC1 := hide hc1; have HC2 := hide hc2; clear h2 hin hn7 hc0 hc1 hc2 HV1
   have HPb : Hid (Whole (w2.setCell ⟨w.heap.size, 1, none⟩ (.slice A7 n7 c7)) w.heap.size 36 [.int .i64 3, .slice A7 n7 c7, .slice A' lh c']) := HPz.out.put 1 _
   have HQb : Hid (Whole (w2.setCell ⟨w.heap.size, 1, none⟩ (.slice A7 n7 c7)) (w.heap.size + 1) 36 [.int .i64 0, .slice none 0 0, .slice none 0 0]) := HQz.out.other hne'
   have HSb : Hid (∀ t, t ≠ 36 → Stays t w2 (w2.setCell ⟨w.heap.size, 1, none⟩ (.slice A7 n7 c7))) := fun t ht => Stays.put HPz.out ht
   have HBb : Hid (Below w.heap.size w (w2.setCell ⟨w.heap.size, 1, none⟩ (.slice A7 n7 c7))) := HBz.out.setCell (p := ⟨w.heap.size, 1, none⟩) (Nat.le_refl _) _
   obtain ⟨a0, a1, a2, la⟩ := cells3 HPz.out
   have za := HPz.out.frozen
   obtain ⟨d0_, d1_, d2_, ld⟩ := cells3 HPb.out
   obtain ⟨q0_, q1_, q2_, lq⟩ := cells3 HQb.out
   have zq := HQb.out.frozen
   go_wp2
   refine retP2 Tryz.results89 rfl rfl rfl (put3 HQb.out _ _ _) ?_
   have hst : ∀ t, t ≠ 36 → Stays t w2 _ := fun t ht => (HSb.out t ht).trans (stays_put3 HQb.out ht (.int .i64 3) (.slice A7 n7 c7) (.slice A' lh c'))
   have hd := HDz.out.keep (hst 3 (by decide)) (hst 5 (by decide))
   have hn9 := HNz.out.keep (w' := _) (fun _ q => absurd q (by omega)) (hst 3 (by decide))
   refine ⟨A7, n7, c7, A', lh, c', Ao, no, co, rfl, ⟨hn9, hd.h, HLz.out, hd.hl, HC0.out, HC1.out, HC2.out, hd.d0⟩, ?_, below_put3 HBb.out (by omega) _ _ _⟩
   first | exact HOz.out.keep (hst 3 (by decide)) (hst 60 (by decide)) | (rw [List.append_nil]; exact HOz.out.keep (hst 3 (by decide)) (hst 60 (by decide)))
 ·rw [step_fin h1 (by omega) hs]
  have g59 : (b == 59) = false := by simp; omega
  have g57 : 57 < b := by omega
  have g48 : 48 ≤ b := by omega
  go_enter Tryz.func89, Tryz.ntmps89
  go_wp2
  obtain ⟨X, hX⟩ := exq ((w.alloc (.cells #[.int .i64 0, .slice A ln c, .slice A' lh c'] 36)).alloc (.cells #[.int .i64 0, .slice none 0 0, .slice none 0 0] 36))
  rw [hX]
  have HBX : Hid (Below w.heap.size w X) := by unfold Hid; rw [← hX]; exact two_new _ _ _ _ _
  have HPX : Hid (Whole X w.heap.size 36 [.int .i64 0, .slice A ln c, .slice A' lh c']) := by unfold Hid; rw [← hX]; exact (Whole.new _ _ _).alloc _
  have HQX : Hid (Whole X (w.heap.size + 1) 36 [.int .i64 0, .slice none 0 0, .slice none 0 0]) := by unfold Hid; rw [← hX]; exact whole_snd _ _ _ _
  have HDX := hide (HDw.out.below HBX.out)
  have HOX := hide (HOw.out.below HBX.out)
  clear hX
  refine rgL (fun w' => Below X.heap.size X w') 12 [(0, 2), (0, 4), (0, 6), (0, 5), (0, 0), (0, 7), (1, 1), (1, 3), (1, 8), (1, 9), (1, 10), (1, 11), (3, 12), (3, 13)] bd1 ?_
  iterate 4 refine stL (h := ?_)
  refine stL (hy := fun w hS => by obtain ⟨p0_, p1_, p2_, lp⟩ := cells3 (HPX.out.later hS); go_simp <;> with_reducible rfl) (h := ?_)
  refine stL (hy := fun w hS => by obtain ⟨p0_, p1_, p2_, lp⟩ := cells3 (HPX.out.later hS); go_simp <;> with_reducible rfl) (h := ?_)
  refine alL fun K hK => ?_
  go_wp2
  refine hK.out _ _ (bd1.alloc (Nat.le_refl _) _) ?_
  clear hK K
  refine alL fun K hK => ?_
  refine wpList_catE elemE (by rfl) (.tmp 156) (.tmp 157) rfl rfl rfl (OwnE.empty X.drew (Nat.zero_le _)) (HOX.out.below (bd1.alloc (Nat.le_refl _) _)).e HOX.out.nl HOX.out.c0 (by simp; omega) (by omega) (by decide) ?_
  intro v1 y1 h1 _ _
  rw [List.nil_append] at h1
  have By1 : Below X.heap.size X y1 := bd1.trans h1.bel
  obtain ⟨A5, n5, c5, rfl⟩ := h1.slice
  have HV := hide h1; clear h1; go_wp2
  refine hK.out _ _ (By1) ?_
  clear hK K
  refine alL fun K hK => ?_
  go_wp2_with fail
  refine (rpfirst_any A ln c y1 HDX.out.c1 HDX.out.c2).mono ?_
  rintro e y2 ⟨rfl, rfl⟩
  go_wp2
  refine hK.out _ _ (By1) ?_
  clear hK K
  refine alL fun K hK => ?_
  go_wp2
  refine hK.out _ _ (By1) ?_
  clear hK K
  refine alL fun K hK => ?_
  go_wp2
  refine hK.out _ _ (By1.alloc By1.size _) ?_
  clear hK K
  refine alL fun K hK => ?_
  refine wpList_pushE elemE 3 b A c (p.n.take 8) (min ln 8) (by rw [List.length_take, HDX.out.nl]; omega) ((HDX.out.n.below By1 (Nat.zero_le _)).take 8) (by rfl) (.tmp 158) (.tmp 165) rfl rfl rfl HV.out (by have := HOX.out.nl; omega) (by omega) (by decide) ?_
  intro v2 y2 h2 _ _
  have By2 : Below X.heap.size X y2 := bd1.trans h2.bel
  obtain ⟨A9, n9, c9, rfl, hev⟩ := h2.evo
  have HEV := hide hev; clear h2 hev HV; go_wp2
  refine hK.out _ _ (By2) ?_
  clear hK K
  obtain ⟨t0, t1, t2, lt3⟩ := cells3 (HQX.out.later By2)
  have zt := (HQX.out.later By2).frozen
  refine laL fun K hK => ?_
  go_wp2
  refine hK.out _ _ ?_
  clear hK K
  refine laL fun K hK => ?_
  go_wp2
  refine hK.out _ _ ?_
  clear hK K
  refine chainL_nil ?_
  go_wp2
  refine retP2 Tryz.results89 rfl rfl rfl (put3 (HQX.out.later By2) _ _ _) ?_
  have hst : ∀ t, t ≠ 36 → Stays t y2 _ := fun t ht => stays_put3 (HQX.out.later By2) ht (.int .i64 0) (.slice A ln c) (.slice A' lh c')
  have hd := (HDX.out.below By2).keep (hst 3 (by decide)) (hst 5 (by decide))
  exact ⟨A, ln, c, A', lh, c', A9, n9, c9, rfl, ⟨hd.n, hd.h, hd.nl, hd.hl, hd.c0, hd.c1, hd.c2, hd.d0⟩, HEV.out.keep (hst 3 (by decide)) (hst 60 (by decide)), below_put3 (HBX.out.trans (By2.mono HBX.out.size)) (by omega) _ _ _⟩
 ·rw [step_idle (p := p) h32 h1 (by omega) h3 hs]
  have g59 : (b == 59) = false := by simp; omega
  rcases (by omega : b < 48 ∨ (48 ≤ b ∧ 57 < b)) with g5 | ⟨g5, g6⟩
  ·go_enter Tryz.func89, Tryz.ntmps89
   go_wp2
   refine retP2 Tryz.results89 rfl rfl rfl (whole_snd w _ 36 [.int .i64 (4), .slice A ln c, .slice A' lh c']) ?_
   have hb9 := two_new w 36 36 [.int .i64 (4), .slice A ln c, .slice A' lh c'] [.int .i64 (4), .slice A ln c, .slice A' lh c']
   have hd := HDw.out.below hb9
   refine ⟨A, ln, c, A', lh, c', Ao, no, co, rfl, ⟨hd.n, hd.h, hd.nl, hd.hl, hd.c0, hd.c1, hd.c2, hd.d0⟩, ?_, hb9⟩
   first | exact HOw.out.below hb9 | (rw [List.append_nil]; exact HOw.out.below hb9)
  ·go_enter Tryz.func89, Tryz.ntmps89
   go_wp2
   refine retP2 Tryz.results89 rfl rfl rfl (whole_snd w _ 36 [.int .i64 (4), .slice A ln c, .slice A' lh c']) ?_
   have hb9 := two_new w 36 36 [.int .i64 (4), .slice A ln c, .slice A' lh c'] [.int .i64 (4), .slice A ln c, .slice A' lh c']
   have hd := HDw.out.below hb9
   refine ⟨A, ln, c, A', lh, c', Ao, no, co, rfl, ⟨hd.n, hd.h, hd.nl, hd.hl, hd.c0, hd.c1, hd.c2, hd.d0⟩, ?_, hb9⟩
   first | exact HOw.out.below hb9 | (rw [List.append_nil]; exact HOw.out.below hb9)
theorem rpstep_9 (p : Ps) (hok : PsOk p) (A : Option Addr) (ln c : Nat) (A' : Option Addr) (lh c' : Nat) (es : List Ev) (Ao : Option Addr) (no co : Nat) (w : World) (hp : Dp w p A ln c A' lh c') (ho : Evo w es Ao no co) (hl : no ≤ 100000) (hln : ln ≤ 10000) (b : Int) (b0 : 0 ≤ b) (b1 : b ≤ 255) (hb : 128 ≤ b) :
  Calls Tryz.prog 89 #[.agg #[.int .i64 p.st, .slice A ln c, .slice A' lh c'], .slice Ao no co, .int .u8 b] w (DGave w (stepP p b).1 (es ++ (stepP p b).2)) := by
 obtain ⟨W0, hW0⟩ := exq ((w.alloc (.cells #[.int .i64 p.st, .slice A ln c, .slice A' lh c'] 36)).alloc (.cells #[.int .i64 0, .slice none 0 0, .slice none 0 0] 36))
 have HB0 : Hid (Below w.heap.size w W0) := by unfold Hid; rw [← hW0]; exact two_new _ _ _ _ _
 have HP0 : Hid (Whole W0 w.heap.size 36 [.int .i64 p.st, .slice A ln c, .slice A' lh c']) := by unfold Hid; rw [← hW0]; exact (Whole.new _ _ _).alloc _
 have HQ0 : Hid (Whole W0 (w.heap.size + 1) 36 [.int .i64 0, .slice none 0 0, .slice none 0 0]) := by unfold Hid; rw [← hW0]; exact whole_snd _ _ _ _
 have HSZ : Hid (w.heap.size + 1 + 1 = W0.heap.size) := by unfold Hid; rw [← hW0]; simp
 have HDw := hide hp; have HOw := hide ho
 have HD := hide (hp.below HB0.out)
 have HO := hide (ho.below HB0.out)
 have HW0 := hide hW0; clear hW0 hp ho
 have hne : ¬ w.heap.size = w.heap.size + 1 := by omega
 have hne' : ¬ w.heap.size + 1 = w.heap.size := by omega
 have h24 : (b == 24) = false := by simp; omega
 have h26 : (b == 26) = false := by simp; omega
 have h27 : (b == 27) = false := by simp; omega
 have h127 : (b == 127) = false := by simp; omega
 have h32 : 32 ≤ b := by omega
 obtain ⟨fl, hl8, hcut⟩ : ∃ fl hl8, cut (p.h ++ [b]) = (fl, hl8) := ⟨_, _, rfl⟩
 have hc0 : 128 ≤ b ∨ p.st = 0 := .inl hb
 rw [step_take (p := p) (b := b) (by omega) (by omega) hc0, hcut]
 simp only
 have hlh := hok.len
 rw [HDw.out.hl] at hlh
 obtain ⟨a0, a1, a2, la⟩ := cells3 HP0.out
 have HCUT := hide hcut; clear hcut
 go_enter Tryz.func89, Tryz.ntmps89
 go_wp2_with (at_builtin; refine stopw ?_)
 unfold Hid
 rw [HW0.out, HSZ.out]
 refine wpList_cat elemBytes rfl _ _ rfl rfl rfl (Own.empty W0 5 .u8) ((HD.out.below ((Below.refl _ _).alloc (Nat.le_refl _) _)).h.ints) HD.out.hl HD.out.d0 (by simp; omega) (by omega) ?_
 intro v1 w1 h1_
 rw [List.nil_append] at h1_
 obtain ⟨A5, c5, rfl, -, -, -, -⟩ := h1_.typed (C := 0)
 have HV1 := hide h1_
 have HLV : Hid (p.h.length ≤ 1000000) := by unfold Hid; have := HDw.out.hl; omega
 clear h1_ a0 a1 a2 la
 go_wp2_with (at_builtin; refine stopw ?_)
 unfold Hid
 refine wpList_push elemBytes rfl _ _ rfl rfl rfl HV1.out HLV.out (by omega) ?_
 intro v2 w2 h2_
 obtain ⟨A6, c6, rfl, hin, hc1, hc00, hc2⟩ := h2_.typed (C := 0)
 obtain ⟨m6, hm6⟩ := exq ((p.h ++ [b]).length)
 rw [hm6]
 rw [hm6] at hc1
 have hm64 : m6 ≤ 4 := by rw [← hm6, List.length_append, HDw.out.hl]; simp; omega
 have hby : Byte (p.h ++ [b]) := hok.byte.append (by intro x hx; simp at hx; omega)
 have HBW := hide h2_.bel; have HIN := hide hin; have HM6 := hide hm6; have HC1 := hide hc1; have HC00 := hide hc00; have HC2 := hide hc2; clear h2_ hin hm6 HV1 hc1 hc00 hc2; go_wp2_with fail
 refine (cutT_any A6 m6 c6 (p.h ++ [b]) w2 HIN.out HM6.out HC1.out HC00.out HC2.out (by omega) hby).mono ?_
 rintro e w3 ⟨v3, A8, n8, c8, rfl, hov, hi8, hn8, hc8, h80⟩
 have hlc := cut_len (p.h ++ [b])
 rw [HCUT.out] at hov hi8 hn8 hlc
 rw [HM6.out] at hlc
 simp only at hov hi8 hn8 hlc
 obtain ⟨A3, c3, rfl, hi3, -, -, -⟩ := hov.typed (C := 0)
 have HB3 : Hid (Below W0.heap.size W0 w3) := HBW.out.trans (hov.bel.mono HBW.out.size)
 obtain ⟨m3, hm3⟩ := exq (fl.length)
 rw [hm3]
 rw [hm3] at hlc
 have HM3 := hide hm3; have HI3 := hide hi3; have HI8 := hide hi8; have HN8 := hide hn8; have H80 := hide h80; clear hov hi3 hi8 hn8 h80 hm3 HIN HM6 HBW hc8 HC1 HC00 HC2 hby
 have HPy := hide (HP0.out.later HB3.out)
 have HQy := hide (HQ0.out.later HB3.out)
 have HDy := hide (HD.out.below HB3.out)
 have HOy := hide (HO.out.below HB3.out)
 have HB4 : Hid (Below w.heap.size w w3) := HB0.out.trans (HB3.out.mono HB0.out.size)
 go_wp2
 go_loopw [1, 10] (fun v i wr => ∃ (k : Nat) (Ak : Option Addr) (nk ck : Nat), k ≤ m3 ∧ i = .int .i64 k ∧ v = .slice Ak nk ck ∧ Evo wr (es ++ prE (fl.take k)) Ak nk ck ∧ Below w3.heap.size w3 wr) (fun _ i _ => m3 - (intOf i).toNat)
 case atStart => exact ⟨0, Ao, no, co, Nat.zero_le _, rfl, rfl, by simpa [prE] using HOy.out, Below.refl _ _⟩
 case round =>
  obtain ⟨k, Ak, nk, ck, hk, rfl, rfl, hev0, hbw⟩ := hrel
  have HOX := hide hev0; have hbw2 := hide hbw
  have HPX := hide (HPy.out.later hbw)
  have HQX := hide (HQy.out.later hbw)
  clear hev0 hbw
  by_cases hlt : k < m3
  ·obtain ⟨bb, off, rfl, hcell, hblt⟩ := (HI3.out.below hbw2.out (Nat.zero_le _)).ints.at (i := k) (by rw [HM3.out]; exact hlt)
   obtain ⟨r, hr⟩ := exq (fl.getD k 0)
   rw [hr] at hcell
   have HTK := hide (take_snoc fl k r (by rw [HM3.out]; exact hlt) hr)
   have hlx : nk ≤ 100010 := by have h5 := HOX.out.nl; have h6 := HOw.out.nl; rw [List.length_append, prE, List.length_map, List.length_take] at h5; omega
   have HCE := hide hcell; clear hr hcell; go_wp2
   refine rgT (fun w' => Below wr.heap.size wr w') (.take 1 (.take 3 (.take 4 (.take 5 (.take 6 (.take 7 (.two 0 (.two 2 (.alone 8 (.alone 9 (.alone 10 .done))) 8 (.alone 2 (.alone 9 (.alone 10 .done)))) 8 (.alone 0 (.alone 2 (.alone 9 (.alone 10 .done))))))))))) bd1 ?_
   iterate 4 refine stT (h := ?_)
   refine stT (hy := fun w9 hS => by have c9 := (hS.cell (p := ⟨bb, off + k, none⟩) hblt).trans HCE.out; go_simp <;> with_reducible rfl) (h := ?_)
   refine stT (h := ?_)
   have Bx49 : Below wr.heap.size wr wr.drew := (Below.refl _ _).drewN 1
   generalize wr.drew = x49 at Bx49 ⊢
   refine tree_two (by simp only [List.getElem?_toArray, List.getElem?_cons_zero]; rfl) (by simp only [List.getElem?_toArray, List.getElem?_cons_zero, List.getElem?_cons_succ]; rfl) ?_ ?_
   ·intro K hK
    go_wp2
    refine hK.out _ _ ((Bx49.alloc Bx49.size _)) ?_
    clear hK K
    have HV := hide (OwnE.empty (C := 0) (te := 60) (k := .i64) x49 (Nat.zero_le _))
    have Bx50 := Bx49.alloc Bx49.size (.cells #[] 60)
    have hz : Hid (x49.heap.size < (x49.alloc (.cells #[] 60)).heap.size) := by unfold Hid; simp
    generalize x49.alloc (.cells #[] 60) = x50 at HV Bx50 hz ⊢
    refine tree_two (by simp only [List.getElem?_toArray, List.getElem?_cons_zero, List.getElem?_cons_succ]; rfl) (by simp only [List.getElem?_toArray, List.getElem?_cons_zero, List.getElem?_cons_succ]; rfl) ?_ ?_
    ·intro K hK
     refine wpList_catEg elemE (by rfl) (.tmp 87) (.tmp 88) rfl rfl rfl HV.out (HOX.out.below Bx50).e HOX.out.nl HOX.out.c0 (by simp; omega) (by omega) (by decide) ?_
     intro vx51 x51 ho hg
     rw [List.nil_append] at ho
     have Bx51 : Below wr.heap.size wr x51 := Bx49.trans (ho.bel.mono Bx49.size)
     obtain ⟨Ax51, nx51, cx51, rfl⟩ := ho.slice
     clear HV; have HV := hide ho; clear ho hg; go_wp2
     refine hK.out _ _ (Bx51) ?_
     clear hK K
     refine alT fun K hK => ?_
     go_wp2
     refine hK.out _ _ ((Bx51.alloc Bx51.size _)) ?_
     clear hK K
     have HE := hide (Whole.new x51 60 [.int .i64 1, .int .i64 r, .slice none 0 0])
     have Bx52 := Bx51.alloc Bx51.size (.cells #[.int .i64 1, .int .i64 r, .slice none 0 0] 60)
     replace HV := hide (HV.out.alloc (.cells #[.int .i64 1, .int .i64 r, .slice none 0 0] 60))
     generalize x51.alloc (.cells #[.int .i64 1, .int .i64 r, .slice none 0 0] 60) = x52 at HE Bx52 HV ⊢
     refine alT fun K hK => ?_
     refine wpList_catE elemE (by rfl) (.tmp 89) (.tmp 95) rfl rfl rfl HV.out (Evs.one (ns := []) HE.out rfl .nil) rfl (fun h => by cases h) (by rw [HOX.out.nl]; omega) (by omega) (by decide) ?_
     intro vx53 x53 ho _ _
     have Bx53 : Below wr.heap.size wr x53 := Bx49.trans (ho.bel.mono Bx49.size)
     obtain ⟨A9, n9, c9, rfl, hev⟩ := ho.evo
     have HEV := hide hev; clear ho hev HV HE; go_wp2
     refine hK.out _ _ (Bx53) ?_
     clear hK K
     refine alT fun K hK => ?_
     go_wp2
     refine hK.out _ _ (Bx53) ?_
     clear hK K
     refine tree_done ?_
     go_wp2
     go_roundw
     case rel =>
      refine ⟨k + 1, A9, n9, c9, by omega, by go_num, rfl, ?_, hbw2.out.trans (Bx53.mono hbw2.out.size)⟩
      rw [HTK.out]
      have e : es ++ prE (fl.take k ++ [r]) = es ++ prE (fl.take k) ++ [⟨1, r, []⟩] := by simp [prE]
      rw [e]
      exact HEV.out
     case measure => simp [intOf]; omega
    ·intro K hK
     go_wp2
     refine hK.out _ _ ((Bx50.alloc Bx50.size _)) ?_
     clear hK K
     have HE := hide (Whole.new x50 60 [.int .i64 1, .int .i64 r, .slice none 0 0])
     have Bx54 := Bx50.alloc Bx50.size (.cells #[.int .i64 1, .int .i64 r, .slice none 0 0] 60)
     replace HV := hide (HV.out.alloc (.cells #[.int .i64 1, .int .i64 r, .slice none 0 0] 60))
     generalize x50.alloc (.cells #[.int .i64 1, .int .i64 r, .slice none 0 0] 60) = x54 at HE Bx54 HV ⊢
     refine alT fun K hK => ?_
     refine wpList_catEg elemE (by rfl) (.tmp 87) (.tmp 88) rfl rfl rfl HV.out (HOX.out.below Bx54).e HOX.out.nl HOX.out.c0 (by simp; omega) (by omega) (by decide) ?_
     intro vx55 x55 ho hg
     rw [List.nil_append] at ho
     have Bx55 : Below wr.heap.size wr x55 := Bx49.trans (ho.bel.mono Bx49.size)
     replace HE := hide (HE.out.far (g' := x49.heap.size) hg (by have := hz.out; omega))
     obtain ⟨Ax55, nx55, cx55, rfl⟩ := ho.slice
     clear HV; have HV := hide ho; clear ho hg; go_wp2
     refine hK.out _ _ (Bx55) ?_
     clear hK K
     refine alT fun K hK => ?_
     refine wpList_catE elemE (by rfl) (.tmp 89) (.tmp 95) rfl rfl rfl HV.out (Evs.one (ns := []) HE.out rfl .nil) rfl (fun h => by cases h) (by rw [HOX.out.nl]; omega) (by omega) (by decide) ?_
     intro vx56 x56 ho _ _
     have Bx56 : Below wr.heap.size wr x56 := Bx49.trans (ho.bel.mono Bx49.size)
     obtain ⟨A9, n9, c9, rfl, hev⟩ := ho.evo
     have HEV := hide hev; clear ho hev HV HE; go_wp2
     refine hK.out _ _ (Bx56) ?_
     clear hK K
     refine alT fun K hK => ?_
     go_wp2
     refine hK.out _ _ (Bx56) ?_
     clear hK K
     refine tree_done ?_
     go_wp2
     go_roundw
     case rel =>
      refine ⟨k + 1, A9, n9, c9, by omega, by go_num, rfl, ?_, hbw2.out.trans (Bx56.mono hbw2.out.size)⟩
      rw [HTK.out]
      have e : es ++ prE (fl.take k ++ [r]) = es ++ prE (fl.take k) ++ [⟨1, r, []⟩] := by simp [prE]
      rw [e]
      exact HEV.out
     case measure => simp [intOf]; omega
   ·intro K hK
    go_wp2
    refine hK.out _ _ ((Bx49.alloc Bx49.size _)) ?_
    clear hK K
    have HE := hide (Whole.new x49 60 [.int .i64 1, .int .i64 r, .slice none 0 0])
    have Bx57 := Bx49.alloc Bx49.size (.cells #[.int .i64 1, .int .i64 r, .slice none 0 0] 60)
    have hz : Hid (x49.heap.size < (x49.alloc (.cells #[.int .i64 1, .int .i64 r, .slice none 0 0] 60)).heap.size) := by unfold Hid; simp
    generalize x49.alloc (.cells #[.int .i64 1, .int .i64 r, .slice none 0 0] 60) = x57 at HE Bx57 hz ⊢
    refine alT fun K hK => ?_
    go_wp2
    refine hK.out _ _ ((Bx57.alloc Bx57.size _)) ?_
    clear hK K
    have HV := hide (OwnE.empty (C := 0) (te := 60) (k := .i64) x57 (Nat.zero_le _))
    have Bx58 := Bx57.alloc Bx57.size (.cells #[] 60)
    replace HE := hide (HE.out.alloc (.cells #[] 60))
    generalize x57.alloc (.cells #[] 60) = x58 at HV Bx58 HE ⊢
    refine alT fun K hK => ?_
    refine wpList_catEg elemE (by rfl) (.tmp 87) (.tmp 88) rfl rfl rfl HV.out (HOX.out.below Bx58).e HOX.out.nl HOX.out.c0 (by simp; omega) (by omega) (by decide) ?_
    intro vx59 x59 ho hg
    rw [List.nil_append] at ho
    have Bx59 : Below wr.heap.size wr x59 := Bx57.trans (ho.bel.mono Bx57.size)
    replace HE := hide (HE.out.far (g' := x57.heap.size) hg (by have := hz.out; omega))
    obtain ⟨Ax59, nx59, cx59, rfl⟩ := ho.slice
    clear HV; have HV := hide ho; clear ho hg; go_wp2
    refine hK.out _ _ (Bx59) ?_
    clear hK K
    refine alT fun K hK => ?_
    refine wpList_catE elemE (by rfl) (.tmp 89) (.tmp 95) rfl rfl rfl HV.out (Evs.one (ns := []) HE.out rfl .nil) rfl (fun h => by cases h) (by rw [HOX.out.nl]; omega) (by omega) (by decide) ?_
    intro vx60 x60 ho _ _
    have Bx60 : Below wr.heap.size wr x60 := Bx57.trans (ho.bel.mono Bx57.size)
    obtain ⟨A9, n9, c9, rfl, hev⟩ := ho.evo
    have HEV := hide hev; clear ho hev HV HE; go_wp2
    refine hK.out _ _ (Bx60) ?_
    clear hK K
    refine alT fun K hK => ?_
    go_wp2
    refine hK.out _ _ (Bx60) ?_
    clear hK K
    refine tree_done ?_
    go_wp2
    go_roundw
    case rel =>
     refine ⟨k + 1, A9, n9, c9, by omega, by go_num, rfl, ?_, hbw2.out.trans (Bx60.mono hbw2.out.size)⟩
     rw [HTK.out]
     have e : es ++ prE (fl.take k ++ [r]) = es ++ prE (fl.take k) ++ [⟨1, r, []⟩] := by simp [prE]
     rw [e]
     exact HEV.out
    case measure => simp [intOf]; omega
  ·have HTK : Hid (fl.take k = fl) := by unfold Hid; exact List.take_of_length_le (by rw [HM3.out]; omega)
   rw [HTK.out] at HOX
   obtain ⟨a0, a1, a2, la⟩ := cells3 HPX.out
   obtain ⟨q0_, q1_, q2_, lq⟩ := cells3 HQX.out
   have zq := HQX.out.frozen
   go_wp2
   refine retP2 Tryz.results89 rfl rfl rfl (put3 HQX.out _ _ _) ?_
   have hst : ∀ t, t ≠ 36 → Stays t wr _ := fun t ht => stays_put3 HQX.out ht (.int .i64 0) (.slice A ln c) (.slice A8 n8 c8)
   have hd := (HDy.out.below hbw2.out).keep (hst 3 (by decide)) (hst 5 (by decide))
   have hi9 := (HI8.out.below hbw2.out (Nat.zero_le _)).keep (w' := _) (fun _ q => absurd q (by omega)) (hst 5 (by decide))
   exact ⟨A, ln, c, A8, n8, c8, Ak, nk, ck, rfl, ⟨hd.n, hi9, hd.nl, HN8.out, hd.c0, hd.c1, hd.c2, H80.out⟩, HOX.out.keep (hst 3 (by decide)) (hst 60 (by decide)), below_put3 (HB4.out.trans (hbw2.out.mono HB4.out.size)) (by omega) _ _ _⟩
end
end Go.Proofs.YtkijclgbpbhglaaGreatDoor
