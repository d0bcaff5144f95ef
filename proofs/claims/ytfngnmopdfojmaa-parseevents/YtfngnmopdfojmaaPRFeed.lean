/-
  Contracts of the document's own answers: a byte's step, whole; bytes, one by one; what is held in the end; whether it is at rest.
-/
import Derived.Test.YtfngnmopdfojmaaPStepA
import Derived.Test.YtfngnmopdfojmaaPStepB
import Derived.Test.YtfngnmopdfojmaaPStepC
import Derived.Test.YtfngnmopdfojmaaPStepD
namespace Go.Proofs.Ytfngnmopdfojmaa
set_option maxRecDepth 100000
open Go.ChangeShapes Go.WideShapes Go.ChangeAt Go.RowKit
set_option linter.unusedVariables false

theorem rpstep_any (p : Ps) (hok : PsOk p) (A : Option Addr) (ln c : Nat) (A' : Option Addr) (lh c' : Nat) (es : List Ev) (Ao : Option Addr) (no co : Nat) (w : World) (hp : Dp w p A ln c A' lh c') (ho : Evo w es Ao no co) (hl : no ≤ 100000) (hln : ln ≤ 10000) (b : Int) (b0 : 0 ≤ b) (b1 : b ≤ 255) :
    Calls Try.prog 20 #[.agg #[.int .i64 p.st, .slice A ln c, .slice A' lh c'], .slice Ao no co, .int .u8 b] w (DGave w (stepP p b).1 (es ++ (stepP p b).2)) := by
  have s0 := hok.st0
  have s4 := hok.st4
  rcases (by omega : b = 24 ∨ b = 26 ∨ b = 127 ∨ (b < 32 ∧ b ≠ 24 ∧ b ≠ 26 ∧ b ≠ 27) ∨ b = 27 ∨ ((32 ≤ b ∧ b < 127) ∧ p.st = 1) ∨ ((32 ≤ b ∧ b < 127) ∧ p.st = 2) ∨ ((32 ≤ b ∧ b < 127) ∧ p.st = 4) ∨ ((32 ≤ b ∧ b < 127) ∧ p.st = 3) ∨ 128 ≤ b ∨ ((32 ≤ b ∧ b < 127) ∧ p.st = 0)) with hb | hb | hb | hb | hb | hb | hb | hb | hb | hb | hb
  · exact rpstep_0 p hok A ln c A' lh c' es Ao no co w hp ho hl hln b b0 b1 hb
  · exact rpstep_1 p hok A ln c A' lh c' es Ao no co w hp ho hl hln b b0 b1 hb
  · exact rpstep_2 p hok A ln c A' lh c' es Ao no co w hp ho hl hln b b0 b1 hb
  · exact rpstep_3 p hok A ln c A' lh c' es Ao no co w hp ho hl hln b b0 b1 hb
  · exact rpstep_4 p hok A ln c A' lh c' es Ao no co w hp ho hl hln b b0 b1 hb
  · exact rpstep_5 p hok A ln c A' lh c' es Ao no co w hp ho hl hln b b0 b1 hb
  · exact rpstep_6 p hok A ln c A' lh c' es Ao no co w hp ho hl hln b b0 b1 hb
  · exact rpstep_7 p hok A ln c A' lh c' es Ao no co w hp ho hl hln b b0 b1 hb
  · exact rpstep_8 p hok A ln c A' lh c' es Ao no co w hp ho hl hln b b0 b1 hb
  · exact rpstep_9 p hok A ln c A' lh c' es Ao no co w hp ho hl hln b b0 b1 hb
  · exact rpstep_10 p hok A ln c A' lh c' es Ao no co w hp ho hl hln b b0 b1 hb

set_option maxHeartbeats 4000000 in
theorem rpfeed_any (p : Ps) (hok : PsOk p) (A : Option Addr) (ln c : Nat) (A' : Option Addr) (lh c' : Nat) (w : World) (hp : Dp w p A ln c A' lh c') (hln : ln ≤ 5000) (Ab : Option Addr) (n cb : Nat) (bs : List Int) (hi : Ints .u8 w Ab bs) (hn : bs.length = n) (hl : n ≤ 1000) (hby : Byte bs) :
    Calls Try.prog 6 #[.agg #[.int .i64 p.st, .slice A ln c, .slice A' lh c'], .slice Ab n cb] w (DGave w (feedP p bs).1 (feedP p bs).2) := by
  obtain ⟨W0, hW0⟩ : ∃ W0, (w.alloc (.cells #[.int .i64 p.st, .slice A ln c, .slice A' lh c'] 37)).alloc (.cells #[.int .i64 0, .slice none 0 0, .slice none 0 0] 37) = W0 := ⟨_, rfl⟩
  have HB0 : Hid (Below w.heap.size w W0) := by unfold Hid; rw [← hW0]; exact two_new w _ _ [.int .i64 p.st, .slice A ln c, .slice A' lh c'] [.int .i64 0, .slice none 0 0, .slice none 0 0]
  have HP0 : Hid (Whole W0 w.heap.size 37 [.int .i64 p.st, .slice A ln c, .slice A' lh c']) := by unfold Hid; rw [← hW0]; exact (Whole.new w 37 [.int .i64 p.st, .slice A ln c, .slice A' lh c']).alloc _
  have HQ0 : Hid (Whole W0 (w.heap.size + 1) 37 [.int .i64 0, .slice none 0 0, .slice none 0 0]) := by unfold Hid; rw [← hW0]; exact whole_snd w _ 37 [.int .i64 0, .slice none 0 0, .slice none 0 0]
  have HSZ : Hid (w.heap.size + 1 + 1 = W0.heap.size) := by unfold Hid; rw [← hW0]; simp
  have HDw := hide hp
  have HW0 := hide hW0
  have HD0 := hide (hp.below HB0.out)
  have HI := hide hi
  have HN := hide hn
  have HOK0 := hide hok
  have HBY := hide hby
  clear hW0 hp hi hn hok hby
  have hne : ¬ w.heap.size = w.heap.size + 1 := by omega
  have hne' : ¬ w.heap.size + 1 = w.heap.size := by omega
  go_enter Try.func6, Try.ntmps6
  go_wp2
  rw [HW0.out]
  go_loopw [6, 7] (fun v i wr => ∃ (k : Nat) (Ak : Option Addr) (nk ck : Nat) (Aq : Option Addr) (lq cq : Nat) (Bq : Option Addr) (mq dq : Nat), k ≤ n ∧ i = .int .i64 k ∧ v = .slice Ak nk ck ∧ Dp wr (feedP p (bs.take k)).1 Aq lq cq Bq mq dq ∧ Evo wr (feedP p (bs.take k)).2 Ak nk ck ∧
      Whole wr w.heap.size 37 [.int .i64 (feedP p (bs.take k)).1.st, .slice Aq lq cq, .slice Bq mq dq] ∧ Whole wr (w.heap.size + 1) 37 [.int .i64 0, .slice none 0 0, .slice none 0 0] ∧ Below w.heap.size w wr) (fun _ i _ => n - (intOf i).toNat)
  case atStart => exact ⟨0, none, 0, 0, A, ln, c, A', lh, c', Nat.zero_le _, rfl, rfl, HD0.out, Evo.nil, HP0.out, HQ0.out, HB0.out⟩
  case round =>
    obtain ⟨k, Ak, nk, ck, Aq, lq, cq, Bq, mq, dq, hk, rfl, rfl, hd, he, hp, hq, hbw⟩ := hrel
    by_cases hlt : k < n
    · obtain ⟨bb, off, rfl, hcell, hblt⟩ := (HI.out.below hbw).at (i := k) (by rw [HN.out]; exact hlt)
      have hbr := HBY.out _ (getD_mem bs k (by rw [HN.out]; exact hlt))
      obtain ⟨b, hb⟩ : ∃ b, bs.getD k 0 = b := ⟨_, rfl⟩
      rw [hb] at hcell hbr
      obtain ⟨b0, b1⟩ := hbr
      have hff := feed_facts (bs.take k) p HOK0.out (HBY.out.take k)
      have HNX : Hid (feedP p (bs.take (k + 1)) = ((stepP (feedP p (bs.take k)).1 b).1, (feedP p (bs.take k)).2 ++ (stepP (feedP p (bs.take k)).1 b).2)) := by
        unfold Hid
        rw [take_snoc bs k b (by rw [HN.out]; exact hlt) hb, feed_snoc]
      obtain ⟨q, es, hqe⟩ : ∃ q es, feedP p (bs.take k) = (q, es) := ⟨_, _, rfl⟩
      rw [hqe] at hd he hp hff HNX
      simp only at hd he hp hff HNX
      obtain ⟨hok, hqn, hle⟩ := hff
      have hle2 : nk ≤ 4000 := by have := he.nl; rw [List.length_take] at hle; omega
      have hlq : lq ≤ 10000 := by have h1 := hd.nl; have h2 := HDw.out.nl; rw [List.length_take] at hqn; omega
      have HD := hide hd
      have HE := hide he
      have HP := hide hp
      have HQ := hide hq
      have HB := hide hbw
      have HOK := hide hok
      have hcd : wr.drew.cell? ⟨bb, off + k, none⟩ = some (.int .u8 b) := hcell
      clear hd he hp hq hbw hok hqn hle hb hqe
      go_wp2
      refine wp_region_chainL (fun w' => Below wr.heap.size wr w') 10 [(0, 1), (0, 2), (0, 3), (0, 4), (0, 0), (1, 5), (1, 6), (1, 7), (2, 8), (2, 9), (3, 10), (3, 11)] (by kernel_rfl) (by kernel_rfl) (by kernel_rfl) (fun _ _ _ _ _ h => h) ?_ ?_
      · exact (Below.refl _ _).drewN 1
      refine chainL_take (v := ?_) (by simp only [List.getElem?_toArray, List.getElem?_cons_zero, List.getElem?_cons_succ]; rfl) (by rfl) (fun w hS => ?_) ?_
      rotate_left
      · go_simp <;> with_reducible rfl
      simp only [Act.put, List.setIfInBounds_toArray, List.set_cons_zero, List.set_cons_succ]
      refine chainL_take (v := ?_) (by simp only [List.getElem?_toArray, List.getElem?_cons_zero, List.getElem?_cons_succ]; rfl) (by rfl) (fun w hS => ?_) ?_
      rotate_left
      · go_simp <;> with_reducible rfl
      simp only [Act.put, List.setIfInBounds_toArray, List.set_cons_zero, List.set_cons_succ]
      refine chainL_take (v := ?_) (by simp only [List.getElem?_toArray, List.getElem?_cons_zero, List.getElem?_cons_succ]; rfl) (by rfl) (fun w hS => ?_) ?_
      rotate_left
      · go_simp <;> with_reducible rfl
      simp only [Act.put, List.setIfInBounds_toArray, List.set_cons_zero, List.set_cons_succ]
      refine chainL_take (v := ?_) (by simp only [List.getElem?_toArray, List.getElem?_cons_zero, List.getElem?_cons_succ]; rfl) (by rfl) (fun w hS => ?_) ?_
      rotate_left
      · go_simp <;> with_reducible rfl
      simp only [Act.put, List.setIfInBounds_toArray, List.set_cons_zero, List.set_cons_succ]
      refine chainL_take (v := ?_) (by simp only [List.getElem?_toArray, List.getElem?_cons_zero]; rfl) (by rfl) (fun w hS => ?_) ?_
      rotate_left
      · obtain ⟨p0_, p1_, p2_, lp⟩ := cells3 (HP.out.later hS); go_simp <;> with_reducible rfl
      simp only [Act.put, List.setIfInBounds_toArray, List.set_cons_zero, List.set_cons_succ]
      refine chainL_alone (by simp only [List.getElem?_toArray, List.getElem?_cons_zero, List.getElem?_cons_succ]; rfl) ?_
      intro K hK
      go_wp2
      refine hK.out _ _ ((Below.refl _ _).drewN 1) ?_
      clear hK K
      refine chainL_alone (by simp only [List.getElem?_toArray, List.getElem?_cons_zero, List.getElem?_cons_succ]; rfl) ?_
      intro K hK
      go_wp2_with fail
      refine (rpstep_any q HOK.out Aq lq cq Bq mq dq es Ak nk ck wr.drew (HD.out.below ((Below.refl _ _).drewN 1)) (HE.out.below ((Below.refl _ _).drewN 1)) (by omega) (by omega) b b0 b1).mono ?_
      rintro e y1 ⟨A1, l1, c1, A2, l2, c2, O1, o1, k1, rfl, hd, ho, hb⟩
      have By1 : Below wr.heap.size wr y1 := ((Below.refl _ _).drewN 1).trans hb
      have HD1 := hide hd
      have HE1 := hide ho
      clear hd ho hb
      obtain ⟨s1, hs1⟩ : ∃ s1, (stepP q b).1.st = s1 := ⟨_, rfl⟩
      rw [hs1]
      have HS1 := hide hs1
      clear hs1
      go_wp2
      refine hK.out _ _ (By1) ?_
      clear hK K
      refine chainL_alone (by simp only [List.getElem?_toArray, List.getElem?_cons_zero, List.getElem?_cons_succ]; rfl) ?_
      intro K hK
      go_wp2
      refine hK.out _ _ (By1) ?_
      clear hK K
      refine chainL_pure (v := ?_) (by simp only [List.getElem?_toArray, List.getElem?_cons_zero, List.getElem?_cons_succ]; rfl) (by rfl) (fun w => ?_) ?_
      rotate_left
      · go_simp <;> with_reducible rfl
      simp only [Act.put, List.setIfInBounds_toArray, List.set_cons_zero, List.set_cons_succ]
      refine chainL_pure (v := ?_) (by simp only [List.getElem?_toArray, List.getElem?_cons_zero, List.getElem?_cons_succ]; rfl) (by rfl) (fun w => ?_) ?_
      rotate_left
      · go_simp <;> with_reducible rfl
      simp only [Act.put, List.setIfInBounds_toArray, List.set_cons_zero, List.set_cons_succ]
      obtain ⟨t0, t1, t2, lt3⟩ := cells3 (HP.out.later By1)
      have zt := (HP.out.later By1).frozen
      refine chainL_late (by simp only [List.getElem?_toArray, List.getElem?_cons_zero, List.getElem?_cons_succ]; rfl) ?_
      intro K hK
      go_wp2
      refine hK.out _ _ ?_
      clear hK K
      refine chainL_late (by simp only [List.getElem?_toArray, List.getElem?_cons_zero, List.getElem?_cons_succ]; rfl) ?_
      intro K hK
      go_wp2
      refine hK.out _ _ ?_
      clear hK K
      refine chainL_nil ?_
      go_wp2
      go_roundw
      case rel =>
        have hst : ∀ t, t ≠ 37 → Stays t y1 _ := fun t ht => stays_put3 (HP.out.later By1) ht (.int .i64 s1) (.slice A1 l1 c1) (.slice A2 l2 c2)
        refine ⟨k + 1, O1, o1, k1, A1, l1, c1, A2, l2, c2, by omega, by go_num, rfl, ?_, ?_, ?_, (((HQ.out.later By1).other hne').other hne').other hne', below_put3 (HB.out.trans (By1.mono HB.out.size)) (Nat.le_refl _) _ _ _⟩
        · rw [HNX.out]; exact HD1.out.keep (hst 3 (by decide)) (hst 5 (by decide))
        · rw [HNX.out]; exact HE1.out.keep (hst 3 (by decide)) (hst 58 (by decide))
        · rw [HNX.out]; simp only; rw [HS1.out]; exact put3 (HP.out.later By1) _ _ _
      case measure => simp [intOf]; omega
    · have HTK : Hid (bs.take k = bs) := by unfold Hid; exact List.take_of_length_le (by rw [HN.out]; omega)
      rw [HTK.out] at hd he hp
      obtain ⟨q, es, hqe⟩ : ∃ q es, feedP p bs = (q, es) := ⟨_, _, rfl⟩
      rw [hqe] at hd he hp
      simp only at hd he hp
      have HQE := hide hqe
      have HD := hide hd
      have HE := hide he
      have HQ := hide hq
      have HB := hide hbw
      obtain ⟨a0, a1, a2, la⟩ := cells3 hp
      obtain ⟨q0_, q1_, q2_, lq_⟩ := cells3 hq
      have zq := hq.frozen
      clear hd he hp hq hbw hqe
      go_wp2
      refine retP2 Try.results6 rfl rfl rfl (put3 HQ.out _ _ _) ?_
      have hst : ∀ t, t ≠ 37 → Stays t wr _ := fun t ht => stays_put3 HQ.out ht (.int .i64 q.st) (.slice Aq lq cq) (.slice Bq mq dq)
      rw [HQE.out]
      exact ⟨Aq, lq, cq, Bq, mq, dq, Ak, nk, ck, rfl, HD.out.keep (hst 3 (by decide)) (hst 5 (by decide)), HE.out.keep (hst 3 (by decide)) (hst 58 (by decide)), below_put3 HB.out (by omega) _ _ _⟩

set_option maxHeartbeats 2000000 in
theorem rpflush_any (p : Ps) (A : Option Addr) (ln c : Nat) (A' : Option Addr) (lh c' : Nat) (w : World) (hp : Dp w p A ln c A' lh c') :
    Calls Try.prog 12 #[.agg #[.int .i64 p.st, .slice A ln c, .slice A' lh c']] w (DGave w ⟨0, p.n, []⟩ (brkE p.h)) := by
  obtain ⟨W0, hW0⟩ : ∃ W0, (w.alloc (.cells #[.int .i64 p.st, .slice A ln c, .slice A' lh c'] 37)).alloc (.cells #[.int .i64 0, .slice none 0 0, .slice none 0 0] 37) = W0 := ⟨_, rfl⟩
  have HB0 : Hid (Below w.heap.size w W0) := by unfold Hid; rw [← hW0]; exact two_new w _ _ [.int .i64 p.st, .slice A ln c, .slice A' lh c'] [.int .i64 0, .slice none 0 0, .slice none 0 0]
  have HP0 : Hid (Whole W0 w.heap.size 37 [.int .i64 p.st, .slice A ln c, .slice A' lh c']) := by unfold Hid; rw [← hW0]; exact (Whole.new w 37 [.int .i64 p.st, .slice A ln c, .slice A' lh c']).alloc _
  have HQ0 : Hid (Whole W0 (w.heap.size + 1) 37 [.int .i64 0, .slice none 0 0, .slice none 0 0]) := by unfold Hid; rw [← hW0]; exact whole_snd w _ 37 [.int .i64 0, .slice none 0 0, .slice none 0 0]
  have HSZ : Hid (w.heap.size + 1 + 1 = W0.heap.size) := by unfold Hid; rw [← hW0]; simp
  have HW0 := hide hW0
  have HD := hide (hp.below HB0.out)
  clear hW0 hp
  have hne : ¬ w.heap.size = w.heap.size + 1 := by omega
  have hne' : ¬ w.heap.size + 1 = w.heap.size := by omega
  go_enter Try.func12, Try.ntmps12
  go_wp2_with fail
  rw [HW0.out]
  refine (rpflush1_any p A ln c A' lh c' [] none 0 0 W0 HD.out Evo.nil (by omega)).mono ?_
  rintro e w1 ⟨A1, l1, c1, A2, l2, c2, O1, o1, k1, rfl, hd, ho, hb⟩
  rw [List.nil_append] at ho
  have HP1 := hide (HP0.out.later hb)
  have HQ1 := hide (HQ0.out.later hb)
  have HB1 := hide (HB0.out.trans (hb.mono HB0.out.size))
  have HD1 := hide hd
  have HO1 := hide ho
  clear hd ho hb
  have HPa : Hid (Whole (((w1.setCell ⟨w.heap.size, 0, none⟩ (.int .i64 p.st)).setCell ⟨w.heap.size, 1, none⟩ (.slice A1 l1 c1)).setCell ⟨w.heap.size, 2, none⟩ (.slice A2 l2 c2)) w.heap.size 37 [.int .i64 p.st, .slice A1 l1 c1, .slice A2 l2 c2]) := put3 HP1.out _ _ _
  have HQa : Hid (Whole (((w1.setCell ⟨w.heap.size, 0, none⟩ (.int .i64 p.st)).setCell ⟨w.heap.size, 1, none⟩ (.slice A1 l1 c1)).setCell ⟨w.heap.size, 2, none⟩ (.slice A2 l2 c2)) (w.heap.size + 1) 37 [.int .i64 0, .slice none 0 0, .slice none 0 0]) := ((HQ1.out.other hne').other hne').other hne'
  have HPb : Hid (Whole ((((w1.setCell ⟨w.heap.size, 0, none⟩ (.int .i64 p.st)).setCell ⟨w.heap.size, 1, none⟩ (.slice A1 l1 c1)).setCell ⟨w.heap.size, 2, none⟩ (.slice A2 l2 c2)).setCell ⟨w.heap.size, 0, none⟩ (.int .i64 0)) w.heap.size 37 [.int .i64 0, .slice A1 l1 c1, .slice A2 l2 c2]) := HPa.out.put 0 _
  have HQb : Hid (Whole ((((w1.setCell ⟨w.heap.size, 0, none⟩ (.int .i64 p.st)).setCell ⟨w.heap.size, 1, none⟩ (.slice A1 l1 c1)).setCell ⟨w.heap.size, 2, none⟩ (.slice A2 l2 c2)).setCell ⟨w.heap.size, 0, none⟩ (.int .i64 0)) (w.heap.size + 1) 37 [.int .i64 0, .slice none 0 0, .slice none 0 0]) := HQa.out.other hne'
  have HSb : Hid (∀ t, t ≠ 37 → Stays t w1 ((((w1.setCell ⟨w.heap.size, 0, none⟩ (.int .i64 p.st)).setCell ⟨w.heap.size, 1, none⟩ (.slice A1 l1 c1)).setCell ⟨w.heap.size, 2, none⟩ (.slice A2 l2 c2)).setCell ⟨w.heap.size, 0, none⟩ (.int .i64 0))) := fun t ht => (stays_put3 HP1.out ht _ _ _).trans (Stays.put HPa.out ht)
  have HBb : Hid (Below w.heap.size w ((((w1.setCell ⟨w.heap.size, 0, none⟩ (.int .i64 p.st)).setCell ⟨w.heap.size, 1, none⟩ (.slice A1 l1 c1)).setCell ⟨w.heap.size, 2, none⟩ (.slice A2 l2 c2)).setCell ⟨w.heap.size, 0, none⟩ (.int .i64 0))) := (below_put3 HB1.out (Nat.le_refl _) _ _ _).setCell (p := ⟨w.heap.size, 0, none⟩) (Nat.le_refl _) _
  obtain ⟨a0, a1, a2, la⟩ := cells3 HP1.out
  have za := HP1.out.frozen
  obtain ⟨b0_, b1_, b2_, lb⟩ := cells3 HPa.out
  have zb := HPa.out.frozen
  obtain ⟨d0_, d1_, d2_, ld⟩ := cells3 HPb.out
  obtain ⟨q0_, q1_, q2_, lq⟩ := cells3 HQb.out
  have zq := HQb.out.frozen
  go_wp2
  refine retP2 Try.results12 rfl rfl rfl (put3 HQb.out _ _ _) ?_
  have hst : ∀ t, t ≠ 37 → Stays t w1 _ := fun t ht => (HSb.out t ht).trans (stays_put3 HQb.out ht (.int .i64 0) (.slice A1 l1 c1) (.slice A2 l2 c2))
  have hd := HD1.out.keep (hst 3 (by decide)) (hst 5 (by decide))
  exact ⟨A1, l1, c1, A2, l2, c2, O1, o1, k1, rfl, ⟨hd.n, hd.h, hd.nl, hd.hl, hd.c0, hd.c1, hd.c2, hd.d0⟩, HO1.out.keep (hst 3 (by decide)) (hst 58 (by decide)), below_put3 HBb.out (by omega) _ _ _⟩

set_option maxHeartbeats 1000000 in
theorem rprest_any (p : Ps) (A : Option Addr) (ln c : Nat) (A' : Option Addr) (lh c' : Nat) (w : World) (hp : Dp w p A ln c A' lh c') (bo : Bool) (hbo : restP p = bo) :
    Calls Try.prog 11 #[.agg #[.int .i64 p.st, .slice A ln c, .slice A' lh c']] w (Said bo w) := by
  have HB : Hid (Below w.heap.size w (w.alloc (.cells #[.int .i64 p.st, .slice A ln c, .slice A' lh c'] 37))) := (Below.refl _ _).alloc (Nat.le_refl _) _
  have hh : p.h = [] ↔ lh = 0 := by rw [← List.length_eq_zero_iff, hp.hl]
  by_cases h0 : p.st = 0
  · have HR : Hid (bo = decide (lh = 0)) := by unfold Hid; rw [← hbo]; unfold restP; rw [h0]; simp [hh]
    clear hh hp hbo
    rw [h0] at HB ⊢
    clear h0
    by_cases h1 : lh = 0
    · subst h1
      go_enter Try.func11, Try.ntmps11
      go_wp2
      go_ret
      exact ⟨ret_bool (by rw [HR.out]; rfl), HB.out⟩
    · have hq : ((lh : Int) == 0) = false := by simp; omega
      go_enter Try.func11, Try.ntmps11
      go_wp2
      go_ret
      exact ⟨ret_bool (by rw [HR.out]; simp [h1]), HB.out⟩
  · obtain rfl : bo = false := by rw [← hbo]; unfold restP; simp [h0]
    have hq : (p.st == 0) = false := by simp [h0]
    clear hh hp hbo h0
    generalize p.st = st at *
    go_enter Try.func11, Try.ntmps11
    go_wp2
    go_ret
    exact ⟨rfl, HB.out⟩
end Go.Proofs.Ytfngnmopdfojmaa
