/-
  Contracts of the document's own answers: a byte's step, in the states.
-/
import Derived.Test.YtfngnmopdfojmaaPStep0
namespace Go.Proofs.Ytfngnmopdfojmaa
set_option maxRecDepth 100000
open Go.ChangeShapes Go.WideShapes Go.ChangeAt Go.RowKit
set_option linter.unusedVariables false

set_option maxHeartbeats 4000000 in
theorem rpstep_5 (p : Ps) (hok : PsOk p) (A : Option Addr) (ln c : Nat) (A' : Option Addr) (lh c' : Nat) (es : List Ev) (Ao : Option Addr) (no co : Nat) (w : World) (hp : Dp w p A ln c A' lh c') (ho : Evo w es Ao no co) (hl : no ≤ 100000) (hln : ln ≤ 10000) (b : Int) (b0 : 0 ≤ b) (b1 : b ≤ 255) (hb : (32 ≤ b ∧ b < 127) ∧ p.st = 1) :
    Calls Try.prog 20 #[.agg #[.int .i64 p.st, .slice A ln c, .slice A' lh c'], .slice Ao no co, .int .u8 b] w (DGave w (stepP p b).1 (es ++ (stepP p b).2)) := by
  obtain ⟨W0, hW0⟩ : ∃ W0, (w.alloc (.cells #[.int .i64 p.st, .slice A ln c, .slice A' lh c'] 37)).alloc (.cells #[.int .i64 0, .slice none 0 0, .slice none 0 0] 37) = W0 := ⟨_, rfl⟩
  have HB0 : Hid (Below w.heap.size w W0) := by unfold Hid; rw [← hW0]; exact two_new w _ _ [.int .i64 p.st, .slice A ln c, .slice A' lh c'] [.int .i64 0, .slice none 0 0, .slice none 0 0]
  have HP0 : Hid (Whole W0 w.heap.size 37 [.int .i64 p.st, .slice A ln c, .slice A' lh c']) := by unfold Hid; rw [← hW0]; exact (Whole.new w 37 [.int .i64 p.st, .slice A ln c, .slice A' lh c']).alloc _
  have HQ0 : Hid (Whole W0 (w.heap.size + 1) 37 [.int .i64 0, .slice none 0 0, .slice none 0 0]) := by unfold Hid; rw [← hW0]; exact whole_snd w _ 37 [.int .i64 0, .slice none 0 0, .slice none 0 0]
  have HSZ : Hid (w.heap.size + 1 + 1 = W0.heap.size) := by unfold Hid; rw [← hW0]; simp
  have HDw := hide hp
  have HOw := hide ho
  have HD := hide (hp.below HB0.out)
  have HO := hide (ho.below HB0.out)
  have HW0 := hide hW0
  clear hW0 hp ho
  have hne : ¬ w.heap.size = w.heap.size + 1 := by omega
  have hne' : ¬ w.heap.size + 1 = w.heap.size := by omega
  obtain ⟨⟨h32, h127l⟩, hs⟩ := hb
  have h128 : b < 128 := by omega
  have h24 : (b == 24) = false := by simp; omega
  have h26 : (b == 26) = false := by simp; omega
  have h27 : (b == 27) = false := by simp; omega
  have h127 : (b == 127) = false := by simp; omega
  rw [step_s1 (p := p) (b := b) (by omega) (by omega) hs, hs]
  rcases (by omega : b = 91 ∨ (b ≠ 91 ∧ b ≤ 47) ∨ (b ≠ 91 ∧ 47 < b)) with g1 | ⟨g1, g2⟩ | ⟨g1, g2⟩
  · subst g1
    go_enter Try.func20, Try.ntmps20
    go_wp2
    refine retP2 Try.results20 rfl rfl rfl (whole_snd w _ 37 [.int .i64 (3), .slice A ln c, .slice A' lh c']) ?_
    have hb9 := two_new w 37 37 [.int .i64 (3), .slice A ln c, .slice A' lh c'] [.int .i64 (3), .slice A ln c, .slice A' lh c']
    have hd := HDw.out.below hb9
    refine ⟨A, ln, c, A', lh, c', Ao, no, co, rfl, ⟨hd.n, hd.h, hd.nl, hd.hl, hd.c0, hd.c1, hd.c2, hd.d0⟩, ?_, hb9⟩
    first | exact HOw.out.below hb9 | (rw [List.append_nil]; exact HOw.out.below hb9)
  · have g3 : (b == 91) = false := by simp; omega
    have HX : Hid (bescN b = 2) := by unfold Hid bescN bbetN; rw [if_neg g1, if_pos g2]
    rw [HX.out]
    go_enter Try.func20, Try.ntmps20
    go_wp2
    refine retP2 Try.results20 rfl rfl rfl (whole_snd w _ 37 [.int .i64 (2), .slice A ln c, .slice A' lh c']) ?_
    have hb9 := two_new w 37 37 [.int .i64 (2), .slice A ln c, .slice A' lh c'] [.int .i64 (2), .slice A ln c, .slice A' lh c']
    have hd := HDw.out.below hb9
    refine ⟨A, ln, c, A', lh, c', Ao, no, co, rfl, ⟨hd.n, hd.h, hd.nl, hd.hl, hd.c0, hd.c1, hd.c2, hd.d0⟩, ?_, hb9⟩
    first | exact HOw.out.below hb9 | (rw [List.append_nil]; exact HOw.out.below hb9)
  · have g3 : (b == 91) = false := by simp; omega
    have HX : Hid (bescN b = 0) := by unfold Hid bescN bbetN; rw [if_neg g1, if_neg (by omega)]
    rw [HX.out]
    go_enter Try.func20, Try.ntmps20
    go_wp2
    refine retP2 Try.results20 rfl rfl rfl (whole_snd w _ 37 [.int .i64 (0), .slice A ln c, .slice A' lh c']) ?_
    have hb9 := two_new w 37 37 [.int .i64 (0), .slice A ln c, .slice A' lh c'] [.int .i64 (0), .slice A ln c, .slice A' lh c']
    have hd := HDw.out.below hb9
    refine ⟨A, ln, c, A', lh, c', Ao, no, co, rfl, ⟨hd.n, hd.h, hd.nl, hd.hl, hd.c0, hd.c1, hd.c2, hd.d0⟩, ?_, hb9⟩
    first | exact HOw.out.below hb9 | (rw [List.append_nil]; exact HOw.out.below hb9)
set_option maxHeartbeats 4000000 in
theorem rpstep_6 (p : Ps) (hok : PsOk p) (A : Option Addr) (ln c : Nat) (A' : Option Addr) (lh c' : Nat) (es : List Ev) (Ao : Option Addr) (no co : Nat) (w : World) (hp : Dp w p A ln c A' lh c') (ho : Evo w es Ao no co) (hl : no ≤ 100000) (hln : ln ≤ 10000) (b : Int) (b0 : 0 ≤ b) (b1 : b ≤ 255) (hb : (32 ≤ b ∧ b < 127) ∧ p.st = 2) :
    Calls Try.prog 20 #[.agg #[.int .i64 p.st, .slice A ln c, .slice A' lh c'], .slice Ao no co, .int .u8 b] w (DGave w (stepP p b).1 (es ++ (stepP p b).2)) := by
  obtain ⟨W0, hW0⟩ : ∃ W0, (w.alloc (.cells #[.int .i64 p.st, .slice A ln c, .slice A' lh c'] 37)).alloc (.cells #[.int .i64 0, .slice none 0 0, .slice none 0 0] 37) = W0 := ⟨_, rfl⟩
  have HB0 : Hid (Below w.heap.size w W0) := by unfold Hid; rw [← hW0]; exact two_new w _ _ [.int .i64 p.st, .slice A ln c, .slice A' lh c'] [.int .i64 0, .slice none 0 0, .slice none 0 0]
  have HP0 : Hid (Whole W0 w.heap.size 37 [.int .i64 p.st, .slice A ln c, .slice A' lh c']) := by unfold Hid; rw [← hW0]; exact (Whole.new w 37 [.int .i64 p.st, .slice A ln c, .slice A' lh c']).alloc _
  have HQ0 : Hid (Whole W0 (w.heap.size + 1) 37 [.int .i64 0, .slice none 0 0, .slice none 0 0]) := by unfold Hid; rw [← hW0]; exact whole_snd w _ 37 [.int .i64 0, .slice none 0 0, .slice none 0 0]
  have HSZ : Hid (w.heap.size + 1 + 1 = W0.heap.size) := by unfold Hid; rw [← hW0]; simp
  have HDw := hide hp
  have HOw := hide ho
  have HD := hide (hp.below HB0.out)
  have HO := hide (ho.below HB0.out)
  have HW0 := hide hW0
  clear hW0 hp ho
  have hne : ¬ w.heap.size = w.heap.size + 1 := by omega
  have hne' : ¬ w.heap.size + 1 = w.heap.size := by omega
  obtain ⟨⟨h32, h127l⟩, hs⟩ := hb
  have h128 : b < 128 := by omega
  have h24 : (b == 24) = false := by simp; omega
  have h26 : (b == 26) = false := by simp; omega
  have h27 : (b == 27) = false := by simp; omega
  have h127 : (b == 127) = false := by simp; omega
  rw [step_s2 (p := p) (b := b) (by omega) (by omega) hs, hs]
  by_cases g2 : b ≤ 47
  · have HX : Hid (bbetN b = 2) := by unfold Hid bbetN; rw [if_pos g2]
    rw [HX.out]
    go_enter Try.func20, Try.ntmps20
    go_wp2
    refine retP2 Try.results20 rfl rfl rfl (whole_snd w _ 37 [.int .i64 (2), .slice A ln c, .slice A' lh c']) ?_
    have hb9 := two_new w 37 37 [.int .i64 (2), .slice A ln c, .slice A' lh c'] [.int .i64 (2), .slice A ln c, .slice A' lh c']
    have hd := HDw.out.below hb9
    refine ⟨A, ln, c, A', lh, c', Ao, no, co, rfl, ⟨hd.n, hd.h, hd.nl, hd.hl, hd.c0, hd.c1, hd.c2, hd.d0⟩, ?_, hb9⟩
    first | exact HOw.out.below hb9 | (rw [List.append_nil]; exact HOw.out.below hb9)
  · have HX : Hid (bbetN b = 0) := by unfold Hid bbetN; rw [if_neg g2]
    rw [HX.out]
    go_enter Try.func20, Try.ntmps20
    go_wp2
    refine retP2 Try.results20 rfl rfl rfl (whole_snd w _ 37 [.int .i64 (0), .slice A ln c, .slice A' lh c']) ?_
    have hb9 := two_new w 37 37 [.int .i64 (0), .slice A ln c, .slice A' lh c'] [.int .i64 (0), .slice A ln c, .slice A' lh c']
    have hd := HDw.out.below hb9
    refine ⟨A, ln, c, A', lh, c', Ao, no, co, rfl, ⟨hd.n, hd.h, hd.nl, hd.hl, hd.c0, hd.c1, hd.c2, hd.d0⟩, ?_, hb9⟩
    first | exact HOw.out.below hb9 | (rw [List.append_nil]; exact HOw.out.below hb9)
set_option maxHeartbeats 4000000 in
theorem rpstep_7 (p : Ps) (hok : PsOk p) (A : Option Addr) (ln c : Nat) (A' : Option Addr) (lh c' : Nat) (es : List Ev) (Ao : Option Addr) (no co : Nat) (w : World) (hp : Dp w p A ln c A' lh c') (ho : Evo w es Ao no co) (hl : no ≤ 100000) (hln : ln ≤ 10000) (b : Int) (b0 : 0 ≤ b) (b1 : b ≤ 255) (hb : (32 ≤ b ∧ b < 127) ∧ p.st = 4) :
    Calls Try.prog 20 #[.agg #[.int .i64 p.st, .slice A ln c, .slice A' lh c'], .slice Ao no co, .int .u8 b] w (DGave w (stepP p b).1 (es ++ (stepP p b).2)) := by
  obtain ⟨W0, hW0⟩ : ∃ W0, (w.alloc (.cells #[.int .i64 p.st, .slice A ln c, .slice A' lh c'] 37)).alloc (.cells #[.int .i64 0, .slice none 0 0, .slice none 0 0] 37) = W0 := ⟨_, rfl⟩
  have HB0 : Hid (Below w.heap.size w W0) := by unfold Hid; rw [← hW0]; exact two_new w _ _ [.int .i64 p.st, .slice A ln c, .slice A' lh c'] [.int .i64 0, .slice none 0 0, .slice none 0 0]
  have HP0 : Hid (Whole W0 w.heap.size 37 [.int .i64 p.st, .slice A ln c, .slice A' lh c']) := by unfold Hid; rw [← hW0]; exact (Whole.new w 37 [.int .i64 p.st, .slice A ln c, .slice A' lh c']).alloc _
  have HQ0 : Hid (Whole W0 (w.heap.size + 1) 37 [.int .i64 0, .slice none 0 0, .slice none 0 0]) := by unfold Hid; rw [← hW0]; exact whole_snd w _ 37 [.int .i64 0, .slice none 0 0, .slice none 0 0]
  have HSZ : Hid (w.heap.size + 1 + 1 = W0.heap.size) := by unfold Hid; rw [← hW0]; simp
  have HDw := hide hp
  have HOw := hide ho
  have HD := hide (hp.below HB0.out)
  have HO := hide (ho.below HB0.out)
  have HW0 := hide hW0
  clear hW0 hp ho
  have hne : ¬ w.heap.size = w.heap.size + 1 := by omega
  have hne' : ¬ w.heap.size + 1 = w.heap.size := by omega
  obtain ⟨⟨h32, h127l⟩, hs⟩ := hb
  have h128 : b < 128 := by omega
  have h24 : (b == 24) = false := by simp; omega
  have h26 : (b == 26) = false := by simp; omega
  have h27 : (b == 27) = false := by simp; omega
  have h127 : (b == 127) = false := by simp; omega
  rw [step_s4 (p := p) (b := b) (by omega) (by omega) hs, hs]
  by_cases g2 : 64 ≤ b
  · rw [if_pos g2]
    go_enter Try.func20, Try.ntmps20
    go_wp2
    refine retP2 Try.results20 rfl rfl rfl (whole_snd w _ 37 [.int .i64 (0), .slice A ln c, .slice A' lh c']) ?_
    have hb9 := two_new w 37 37 [.int .i64 (0), .slice A ln c, .slice A' lh c'] [.int .i64 (0), .slice A ln c, .slice A' lh c']
    have hd := HDw.out.below hb9
    refine ⟨A, ln, c, A', lh, c', Ao, no, co, rfl, ⟨hd.n, hd.h, hd.nl, hd.hl, hd.c0, hd.c1, hd.c2, hd.d0⟩, ?_, hb9⟩
    first | exact HOw.out.below hb9 | (rw [List.append_nil]; exact HOw.out.below hb9)
  · rw [if_neg g2]
    go_enter Try.func20, Try.ntmps20
    go_wp2
    refine retP2 Try.results20 rfl rfl rfl (whole_snd w _ 37 [.int .i64 (4), .slice A ln c, .slice A' lh c']) ?_
    have hb9 := two_new w 37 37 [.int .i64 (4), .slice A ln c, .slice A' lh c'] [.int .i64 (4), .slice A ln c, .slice A' lh c']
    have hd := HDw.out.below hb9
    refine ⟨A, ln, c, A', lh, c', Ao, no, co, rfl, ⟨hd.n, hd.h, hd.nl, hd.hl, hd.c0, hd.c1, hd.c2, hd.d0⟩, ?_, hb9⟩
    first | exact HOw.out.below hb9 | (rw [List.append_nil]; exact HOw.out.below hb9)
set_option maxHeartbeats 4000000 in
theorem rpstep_8 (p : Ps) (hok : PsOk p) (A : Option Addr) (ln c : Nat) (A' : Option Addr) (lh c' : Nat) (es : List Ev) (Ao : Option Addr) (no co : Nat) (w : World) (hp : Dp w p A ln c A' lh c') (ho : Evo w es Ao no co) (hl : no ≤ 100000) (hln : ln ≤ 10000) (b : Int) (b0 : 0 ≤ b) (b1 : b ≤ 255) (hb : (32 ≤ b ∧ b < 127) ∧ p.st = 3) :
    Calls Try.prog 20 #[.agg #[.int .i64 p.st, .slice A ln c, .slice A' lh c'], .slice Ao no co, .int .u8 b] w (DGave w (stepP p b).1 (es ++ (stepP p b).2)) := by
  obtain ⟨W0, hW0⟩ : ∃ W0, (w.alloc (.cells #[.int .i64 p.st, .slice A ln c, .slice A' lh c'] 37)).alloc (.cells #[.int .i64 0, .slice none 0 0, .slice none 0 0] 37) = W0 := ⟨_, rfl⟩
  have HB0 : Hid (Below w.heap.size w W0) := by unfold Hid; rw [← hW0]; exact two_new w _ _ [.int .i64 p.st, .slice A ln c, .slice A' lh c'] [.int .i64 0, .slice none 0 0, .slice none 0 0]
  have HP0 : Hid (Whole W0 w.heap.size 37 [.int .i64 p.st, .slice A ln c, .slice A' lh c']) := by unfold Hid; rw [← hW0]; exact (Whole.new w 37 [.int .i64 p.st, .slice A ln c, .slice A' lh c']).alloc _
  have HQ0 : Hid (Whole W0 (w.heap.size + 1) 37 [.int .i64 0, .slice none 0 0, .slice none 0 0]) := by unfold Hid; rw [← hW0]; exact whole_snd w _ 37 [.int .i64 0, .slice none 0 0, .slice none 0 0]
  have HSZ : Hid (w.heap.size + 1 + 1 = W0.heap.size) := by unfold Hid; rw [← hW0]; simp
  have HDw := hide hp
  have HOw := hide ho
  have HD := hide (hp.below HB0.out)
  have HO := hide (ho.below HB0.out)
  have HW0 := hide hW0
  clear hW0 hp ho
  have hne : ¬ w.heap.size = w.heap.size + 1 := by omega
  have hne' : ¬ w.heap.size + 1 = w.heap.size := by omega
  obtain ⟨⟨h32, h127l⟩, hs⟩ := hb
  have h128 : b < 128 := by omega
  have h24 : (b == 24) = false := by simp; omega
  have h26 : (b == 26) = false := by simp; omega
  have h27 : (b == 27) = false := by simp; omega
  have h127 : (b == 127) = false := by simp; omega
  rw [hs] at HW0 HP0
  rcases (by omega : (48 ≤ b ∧ b ≤ 57) ∨ b = 59 ∨ 64 ≤ b ∨ (b < 64 ∧ ¬ (48 ≤ b ∧ b ≤ 57) ∧ b ≠ 59)) with ⟨h1, h2⟩ | h1 | h1 | ⟨h1, h2, h3⟩
  · rw [step_dig h1 h2 hs]
    have hk := hok.num
    go_enter Try.func20, Try.ntmps20
    go_wp2_with fail
    rw [HW0.out]
    refine (rpdigits_any A ln c p.n W0 HD.out.n.ints HD.out.nl HD.out.c1 HD.out.c2 HD.out.c0 hk (by omega) (b - 48) (by omega) (by omega)).mono ?_
    rintro e w1 ⟨v, rfl, hov⟩
    obtain ⟨A7, c7, rfl, hin, hc1, hc0, hc2⟩ := hov.typed (C := 0)
    obtain ⟨n7, hn7⟩ : ∃ n7, (digN p.n (b - 48)).length = n7 := ⟨_, rfl⟩
    rw [hn7]
    rw [hn7] at hc1
    have HBW := hide hov.bel
    have HPz := hide (HP0.out.later HBW.out)
    have HQz := hide (HQ0.out.later HBW.out)
    have HBz := hide (HB0.out.trans (HBW.out.mono HB0.out.size))
    have HDz := hide (HD.out.below HBW.out)
    have HOz := hide (HO.out.below HBW.out)
    have HNz := hide hin
    have HLz := hide hn7
    have HC0 := hide hc0
    have HC1 := hide hc1
    have HC2 := hide hc2
    clear hov hin hn7 hc0 hc1 hc2
    have HPb : Hid (Whole (w1.setCell ⟨w.heap.size, 1, none⟩ (.slice A7 n7 c7)) w.heap.size 37 [.int .i64 3, .slice A7 n7 c7, .slice A' lh c']) := HPz.out.put 1 _
    have HQb : Hid (Whole (w1.setCell ⟨w.heap.size, 1, none⟩ (.slice A7 n7 c7)) (w.heap.size + 1) 37 [.int .i64 0, .slice none 0 0, .slice none 0 0]) := HQz.out.other hne'
    have HSb : Hid (∀ t, t ≠ 37 → Stays t w1 (w1.setCell ⟨w.heap.size, 1, none⟩ (.slice A7 n7 c7))) := fun t ht => Stays.put HPz.out ht
    have HBb : Hid (Below w.heap.size w (w1.setCell ⟨w.heap.size, 1, none⟩ (.slice A7 n7 c7))) := HBz.out.setCell (p := ⟨w.heap.size, 1, none⟩) (Nat.le_refl _) _
    obtain ⟨a0, a1, a2, la⟩ := cells3 HPz.out
    have za := HPz.out.frozen
    obtain ⟨d0_, d1_, d2_, ld⟩ := cells3 HPb.out
    obtain ⟨q0_, q1_, q2_, lq⟩ := cells3 HQb.out
    have zq := HQb.out.frozen
    go_wp2
    refine retP2 Try.results20 rfl rfl rfl (put3 HQb.out _ _ _) ?_
    have hst : ∀ t, t ≠ 37 → Stays t w1 _ := fun t ht => (HSb.out t ht).trans (stays_put3 HQb.out ht (.int .i64 3) (.slice A7 n7 c7) (.slice A' lh c'))
    have hd := HDz.out.keep (hst 3 (by decide)) (hst 5 (by decide))
    have hn9 := HNz.out.keep (w' := _) (fun _ q => absurd q (by omega)) (hst 3 (by decide))
    refine ⟨A7, n7, c7, A', lh, c', Ao, no, co, rfl, ⟨hn9, hd.h, HLz.out, hd.hl, HC0.out, HC1.out, HC2.out, hd.d0⟩, ?_, below_put3 HBb.out (by omega) _ _ _⟩
    first | exact HOz.out.keep (hst 3 (by decide)) (hst 58 (by decide)) | (rw [List.append_nil]; exact HOz.out.keep (hst 3 (by decide)) (hst 58 (by decide)))
  · subst h1
    rw [step_semi rfl hs]
    have HLN := hide HDw.out.nl
    by_cases g0 : ln = 0
    · subst g0
      have HX : Hid (semiN p.n = [-1, -1]) := by unfold Hid semiN; rw [if_pos (List.eq_nil_of_length_eq_zero HLN.out)]
      rw [HX.out]
      go_enter Try.func20, Try.ntmps20
      go_wp2
      have hb9 : Below w.heap.size w (((w.alloc (.cells #[.int .i64 3, .slice (some ⟨w.heap.size + 1 + 1, 0, none⟩) 2 2, .slice A' lh c'] 37)).alloc (.cells #[.int .i64 3, .slice (some ⟨w.heap.size + 1 + 1, 0, none⟩) 2 2, .slice A' lh c'] 37)).alloc (.cells #[.int .i64 (-1), .int .i64 (-1)] 3)) := (two_new w 37 37 [.int .i64 3, .slice (some ⟨w.heap.size + 1 + 1, 0, none⟩) 2 2, .slice A' lh c'] [.int .i64 3, .slice (some ⟨w.heap.size + 1 + 1, 0, none⟩) 2 2, .slice A' lh c']).alloc (by simp; omega) _
      refine retP2 Try.results20 rfl rfl rfl ((whole_snd w _ 37 [.int .i64 3, .slice (some ⟨w.heap.size + 1 + 1, 0, none⟩) 2 2, .slice A' lh c']).alloc _) ?_
      have hd := HDw.out.below hb9
      have hi9 : IntsT 0 3 .i64 (((w.alloc (.cells #[.int .i64 3, .slice (some ⟨w.heap.size + 1 + 1, 0, none⟩) 2 2, .slice A' lh c'] 37)).alloc (.cells #[.int .i64 3, .slice (some ⟨w.heap.size + 1 + 1, 0, none⟩) 2 2, .slice A' lh c'] 37)).alloc (.cells #[.int .i64 (-1), .int .i64 (-1)] 3)) (some ⟨w.heap.size + 1 + 1, 0, none⟩) [-1, -1] := by
        have := IntsT.new (C := 0) (k := .i64) ((w.alloc (.cells #[.int .i64 3, .slice (some ⟨w.heap.size + 1 + 1, 0, none⟩) 2 2, .slice A' lh c'] 37)).alloc (.cells #[.int .i64 3, .slice (some ⟨w.heap.size + 1 + 1, 0, none⟩) 2 2, .slice A' lh c'] 37)) 3 [-1, -1]
        simpa using this
      refine ⟨some ⟨w.heap.size + 1 + 1, 0, none⟩, 2, 2, A', lh, c', Ao, no, co, rfl, ⟨hi9, hd.h, rfl, hd.hl, (fun h => by cases h), Nat.le_refl _, by unfold maxLen; omega, hd.d0⟩, ?_, hb9⟩
      first | exact HOw.out.below hb9 | (rw [List.append_nil]; exact HOw.out.below hb9)
    · have HX : Hid (semiN p.n = p.n ++ [-1]) := by unfold Hid semiN; rw [if_neg (by intro e; have := HLN.out; rw [e] at this; exact g0 this.symm)]
      rw [HX.out]
      have g1 : ((ln : Int) == 0) = false := by simp; omega
      obtain ⟨a0, a1, a2, la⟩ := cells3 HP0.out
      go_enter Try.func20, Try.ntmps20
      go_wp2_with (at_builtin; refine stopw ?_)
      unfold Hid
      rw [HW0.out, HSZ.out]
      refine wpList_cat elemInts rfl _ _ rfl rfl rfl (Own.empty W0 3 .i64) ((HD.out.below ((Below.refl _ _).alloc (Nat.le_refl _) _)).n.ints) HD.out.nl HD.out.c0 (by simp; omega) (by omega) ?_
      intro v1 w1 h1
      rw [List.nil_append] at h1
      obtain ⟨A5, c5, rfl, -, -, -, -⟩ := h1.typed (C := 0)
      have HV1 := hide h1
      have HLV : Hid (p.n.length ≤ 1000000) := by unfold Hid; have := HLN.out; omega
      clear h1 a0 a1 a2 la
      go_wp2_with (at_builtin; refine stopw ?_)
      unfold Hid
      refine wpList_push elemInts rfl _ _ rfl rfl rfl HV1.out HLV.out (by omega) ?_
      intro v2 w2 h2
      obtain ⟨A7, c7, rfl, hin, hc1, hc0, hc2⟩ := h2.typed (C := 0)
      obtain ⟨n7, hn7⟩ : ∃ n7, (p.n ++ [-1]).length = n7 := ⟨_, rfl⟩
      rw [hn7]
      rw [hn7] at hc1
      have HBW := hide h2.bel
      have HPz := hide (HP0.out.later HBW.out)
      have HQz := hide (HQ0.out.later HBW.out)
      have HBz := hide (HB0.out.trans (HBW.out.mono HB0.out.size))
      have HDz := hide (HD.out.below HBW.out)
      have HOz := hide (HO.out.below HBW.out)
      have HNz := hide hin
      have HLz := hide hn7
      have HC0 := hide hc0
      have HC1 := hide hc1
      have HC2 := hide hc2
      clear h2 hin hn7 hc0 hc1 hc2 HV1
      have HPb : Hid (Whole (w2.setCell ⟨w.heap.size, 1, none⟩ (.slice A7 n7 c7)) w.heap.size 37 [.int .i64 3, .slice A7 n7 c7, .slice A' lh c']) := HPz.out.put 1 _
      have HQb : Hid (Whole (w2.setCell ⟨w.heap.size, 1, none⟩ (.slice A7 n7 c7)) (w.heap.size + 1) 37 [.int .i64 0, .slice none 0 0, .slice none 0 0]) := HQz.out.other hne'
      have HSb : Hid (∀ t, t ≠ 37 → Stays t w2 (w2.setCell ⟨w.heap.size, 1, none⟩ (.slice A7 n7 c7))) := fun t ht => Stays.put HPz.out ht
      have HBb : Hid (Below w.heap.size w (w2.setCell ⟨w.heap.size, 1, none⟩ (.slice A7 n7 c7))) := HBz.out.setCell (p := ⟨w.heap.size, 1, none⟩) (Nat.le_refl _) _
      obtain ⟨a0, a1, a2, la⟩ := cells3 HPz.out
      have za := HPz.out.frozen
      obtain ⟨d0_, d1_, d2_, ld⟩ := cells3 HPb.out
      obtain ⟨q0_, q1_, q2_, lq⟩ := cells3 HQb.out
      have zq := HQb.out.frozen
      go_wp2
      refine retP2 Try.results20 rfl rfl rfl (put3 HQb.out _ _ _) ?_
      have hst : ∀ t, t ≠ 37 → Stays t w2 _ := fun t ht => (HSb.out t ht).trans (stays_put3 HQb.out ht (.int .i64 3) (.slice A7 n7 c7) (.slice A' lh c'))
      have hd := HDz.out.keep (hst 3 (by decide)) (hst 5 (by decide))
      have hn9 := HNz.out.keep (w' := _) (fun _ q => absurd q (by omega)) (hst 3 (by decide))
      refine ⟨A7, n7, c7, A', lh, c', Ao, no, co, rfl, ⟨hn9, hd.h, HLz.out, hd.hl, HC0.out, HC1.out, HC2.out, hd.d0⟩, ?_, below_put3 HBb.out (by omega) _ _ _⟩
      first | exact HOz.out.keep (hst 3 (by decide)) (hst 58 (by decide)) | (rw [List.append_nil]; exact HOz.out.keep (hst 3 (by decide)) (hst 58 (by decide)))
  · rw [step_fin h1 (by omega) hs]
    have g59 : (b == 59) = false := by simp; omega
    have g57 : 57 < b := by omega
    have g48 : 48 ≤ b := by omega
    go_enter Try.func20, Try.ntmps20
    go_wp2
    obtain ⟨X, hX⟩ : ∃ X, (w.alloc (.cells #[.int .i64 0, .slice A ln c, .slice A' lh c'] 37)).alloc (.cells #[.int .i64 0, .slice none 0 0, .slice none 0 0] 37) = X := ⟨_, rfl⟩
    rw [hX]
    have HBX : Hid (Below w.heap.size w X) := by unfold Hid; rw [← hX]; exact two_new w _ _ [.int .i64 0, .slice A ln c, .slice A' lh c'] [.int .i64 0, .slice none 0 0, .slice none 0 0]
    have HPX : Hid (Whole X w.heap.size 37 [.int .i64 0, .slice A ln c, .slice A' lh c']) := by unfold Hid; rw [← hX]; exact (Whole.new w 37 [.int .i64 0, .slice A ln c, .slice A' lh c']).alloc _
    have HQX : Hid (Whole X (w.heap.size + 1) 37 [.int .i64 0, .slice none 0 0, .slice none 0 0]) := by unfold Hid; rw [← hX]; exact whole_snd w _ 37 [.int .i64 0, .slice none 0 0, .slice none 0 0]
    have HDX := hide (HDw.out.below HBX.out)
    have HOX := hide (HOw.out.below HBX.out)
    clear hX
    refine wp_region_chainL (fun w' => Below X.heap.size X w') 12 [(0, 2), (0, 4), (0, 6), (0, 5), (0, 0), (0, 7), (1, 1), (1, 3), (1, 8), (1, 9), (1, 10), (1, 11), (3, 12), (3, 13)] (by kernel_rfl) (by kernel_rfl) (by kernel_rfl) (fun _ _ _ _ _ h => h) ?_ ?_
    · exact (Below.refl _ _).drewN 1
    refine chainL_take (v := ?_) (by simp only [List.getElem?_toArray, List.getElem?_cons_zero, List.getElem?_cons_succ]; rfl) (by rfl) (fun w hS => ?_) ?_
    rotate_left
    · go_simp <;> with_reducible rfl
    simp only [Act.put, List.setIfInBounds_toArray, List.set_cons_zero, List.set_cons_succ]
    refine chainL_take (v := ?_) (by simp only [List.getElem?_toArray, List.getElem?_cons_zero, List.getElem?_cons_succ]; rfl) (by rfl) (fun w hS => ?_) ?_
    rotate_left
    · go_simp <;> with_reducible rfl
    simp only [Act.put, List.setIfInBounds_toArray, List.set_cons_zero, List.set_cons_succ]
    refine chainL_take (v := ?_) (by simp only [List.getElem?_toArray, List.getElem?_cons_zero, List.getElem?_cons_succ]; rfl) (by rfl) (fun w hS => ?_) ?_
    rotate_left
    · go_simp <;> with_reducible rfl
    simp only [Act.put, List.setIfInBounds_toArray, List.set_cons_zero, List.set_cons_succ]
    refine chainL_take (v := ?_) (by simp only [List.getElem?_toArray, List.getElem?_cons_zero, List.getElem?_cons_succ]; rfl) (by rfl) (fun w hS => ?_) ?_
    rotate_left
    · go_simp <;> with_reducible rfl
    simp only [Act.put, List.setIfInBounds_toArray, List.set_cons_zero, List.set_cons_succ]
    refine chainL_take (v := ?_) (by simp only [List.getElem?_toArray, List.getElem?_cons_zero]; rfl) (by rfl) (fun w hS => ?_) ?_
    rotate_left
    · obtain ⟨p0_, p1_, p2_, lp⟩ := cells3 (HPX.out.later hS); go_simp <;> with_reducible rfl
    simp only [Act.put, List.setIfInBounds_toArray, List.set_cons_zero, List.set_cons_succ]
    refine chainL_take (v := ?_) (by simp only [List.getElem?_toArray, List.getElem?_cons_zero, List.getElem?_cons_succ]; rfl) (by rfl) (fun w hS => ?_) ?_
    rotate_left
    · obtain ⟨p0_, p1_, p2_, lp⟩ := cells3 (HPX.out.later hS); go_simp <;> with_reducible rfl
    simp only [Act.put, List.setIfInBounds_toArray, List.set_cons_zero, List.set_cons_succ]
    refine chainL_alone (by simp only [List.getElem?_toArray, List.getElem?_cons_zero, List.getElem?_cons_succ]; rfl) ?_
    intro K hK
    go_wp2
    refine hK.out _ _ (((Below.refl _ _).drewN 1).alloc (Nat.le_refl _) _) ?_
    clear hK K
    refine chainL_alone (by simp only [List.getElem?_toArray, List.getElem?_cons_zero, List.getElem?_cons_succ]; rfl) ?_
    intro K hK
    refine wpList_catE elemE (by rfl) (.tmp 156) (.tmp 157) rfl rfl rfl (OwnE.empty X.drew (Nat.zero_le _)) (HOX.out.below (((Below.refl _ _).drewN 1).alloc (Nat.le_refl _) _)).e HOX.out.nl HOX.out.c0 (by simp; omega) (by omega) (by decide) ?_
    intro v1 y1 h1 _ _
    rw [List.nil_append] at h1
    have By1 : Below X.heap.size X y1 := ((Below.refl _ _).drewN 1).trans h1.bel
    obtain ⟨A5, n5, c5, rfl⟩ := h1.slice
    have HV := hide h1
    clear h1
    go_wp2
    refine hK.out _ _ (By1) ?_
    clear hK K
    refine chainL_alone (by simp only [List.getElem?_toArray, List.getElem?_cons_zero, List.getElem?_cons_succ]; rfl) ?_
    intro K hK
    go_wp2_with fail
    refine (rpfirst_any A ln c y1 HDX.out.c1 HDX.out.c2).mono ?_
    rintro e y2 ⟨rfl, rfl⟩
    go_wp2
    refine hK.out _ _ (By1) ?_
    clear hK K
    refine chainL_alone (by simp only [List.getElem?_toArray, List.getElem?_cons_zero, List.getElem?_cons_succ]; rfl) ?_
    intro K hK
    go_wp2
    refine hK.out _ _ (By1) ?_
    clear hK K
    refine chainL_alone (by simp only [List.getElem?_toArray, List.getElem?_cons_zero, List.getElem?_cons_succ]; rfl) ?_
    intro K hK
    go_wp2
    refine hK.out _ _ (By1.alloc By1.size _) ?_
    clear hK K
    refine chainL_alone (by simp only [List.getElem?_toArray, List.getElem?_cons_zero, List.getElem?_cons_succ]; rfl) ?_
    intro K hK
    refine wpList_pushE elemE 3 b A c (p.n.take 8) (min ln 8) (by rw [List.length_take, HDX.out.nl]; omega) ((HDX.out.n.below By1 (Nat.zero_le _)).take 8) (by rfl) (.tmp 158) (.tmp 165) rfl rfl rfl HV.out (by have := HOX.out.nl; omega) (by omega) (by decide) ?_
    intro v2 y2 h2 _ _
    have By2 : Below X.heap.size X y2 := ((Below.refl _ _).drewN 1).trans h2.bel
    obtain ⟨A9, n9, c9, rfl, hev⟩ := h2.evo
    have HEV := hide hev
    clear h2 hev HV
    go_wp2
    refine hK.out _ _ (By2) ?_
    clear hK K
    obtain ⟨t0, t1, t2, lt3⟩ := cells3 (HQX.out.later By2)
    have zt := (HQX.out.later By2).frozen
    refine chainL_late (by simp only [List.getElem?_toArray, List.getElem?_cons_zero, List.getElem?_cons_succ]; rfl) ?_
    intro K hK
    go_wp2
    refine hK.out _ _ ?_
    clear hK K
    refine chainL_late (by simp only [List.getElem?_toArray, List.getElem?_cons_zero, List.getElem?_cons_succ]; rfl) ?_
    intro K hK
    go_wp2
    refine hK.out _ _ ?_
    clear hK K
    refine chainL_nil ?_
    go_wp2
    refine retP2 Try.results20 rfl rfl rfl (put3 (HQX.out.later By2) _ _ _) ?_
    have hst : ∀ t, t ≠ 37 → Stays t y2 _ := fun t ht => stays_put3 (HQX.out.later By2) ht (.int .i64 0) (.slice A ln c) (.slice A' lh c')
    have hd := (HDX.out.below By2).keep (hst 3 (by decide)) (hst 5 (by decide))
    exact ⟨A, ln, c, A', lh, c', A9, n9, c9, rfl, ⟨hd.n, hd.h, hd.nl, hd.hl, hd.c0, hd.c1, hd.c2, hd.d0⟩, HEV.out.keep (hst 3 (by decide)) (hst 58 (by decide)), below_put3 (HBX.out.trans (By2.mono HBX.out.size)) (by omega) _ _ _⟩
  · rw [step_idle (p := p) h32 h1 (by omega) h3 hs]
    have g59 : (b == 59) = false := by simp; omega
    rcases (by omega : b < 48 ∨ (48 ≤ b ∧ 57 < b)) with g5 | ⟨g5, g6⟩
    · go_enter Try.func20, Try.ntmps20
      go_wp2
      refine retP2 Try.results20 rfl rfl rfl (whole_snd w _ 37 [.int .i64 (4), .slice A ln c, .slice A' lh c']) ?_
      have hb9 := two_new w 37 37 [.int .i64 (4), .slice A ln c, .slice A' lh c'] [.int .i64 (4), .slice A ln c, .slice A' lh c']
      have hd := HDw.out.below hb9
      refine ⟨A, ln, c, A', lh, c', Ao, no, co, rfl, ⟨hd.n, hd.h, hd.nl, hd.hl, hd.c0, hd.c1, hd.c2, hd.d0⟩, ?_, hb9⟩
      first | exact HOw.out.below hb9 | (rw [List.append_nil]; exact HOw.out.below hb9)
    · go_enter Try.func20, Try.ntmps20
      go_wp2
      refine retP2 Try.results20 rfl rfl rfl (whole_snd w _ 37 [.int .i64 (4), .slice A ln c, .slice A' lh c']) ?_
      have hb9 := two_new w 37 37 [.int .i64 (4), .slice A ln c, .slice A' lh c'] [.int .i64 (4), .slice A ln c, .slice A' lh c']
      have hd := HDw.out.below hb9
      refine ⟨A, ln, c, A', lh, c', Ao, no, co, rfl, ⟨hd.n, hd.h, hd.nl, hd.hl, hd.c0, hd.c1, hd.c2, hd.d0⟩, ?_, hb9⟩
      first | exact HOw.out.below hb9 | (rw [List.append_nil]; exact HOw.out.below hb9)
end Go.Proofs.Ytfngnmopdfojmaa
