/-
  The walk of the law ParseEvents.
-/
import Derived.Test.YtfngnmopdfojmaaPNum
import Derived.Test.YtfngnmopdfojmaaPRFeed
import Derived.Test.YtfngnmopdfojmaaPOpen
import Derived.Test.YtfngnmopdfojmaaPWalkC
import Derived.Test.YtfngnmopdfojmaaChainL
import Derived.Lib.SlBytesConst
namespace Go.Proofs.Ytfngnmopdfojmaa
set_option maxRecDepth 100000
open Go.ChangeShapes Go.WideShapes Go.ChangeAt Go.RowKit
set_option linter.unusedVariables false

theorem Ints.fr {k : IntKind} {w w' : World} {A : Option Addr} {zs : List Int} {g : Nat} (h : Ints k w A zs) (hf : Fr w.heap.size g w w') (hA : ∀ ad, A = some ad → 0 < zs.length → ad.block ≠ g) : Ints k w' A zs := by
  rcases h with h | ⟨b, off, ha, hc⟩
  · exact .inl h
  · refine .inr ⟨b, off, ha, fun i hi => ?_⟩
    have e : w'.heap[b]? = w.heap[b]? := hf.block b (block_lt_of_cell (hc i hi)) (hA _ ha (by omega))
    rw [← hc i hi]
    simp only [World.cell?, e]
theorem feed_extra : Byte [27, 91, 49, 50, 59] := by intro x hx; simp at hx; omega
set_option maxHeartbeats 8000000 in
theorem parseEvents_walk (a : Option Addr) (len cap : Nat) (w : World) (hrow : Bss w a len) :
    Calls Try.prog 3 #[.slice a len cap] w fun e w' => e = .returned (.bool true) ∧ Below w.heap.size w w' := by
  obtain ⟨W1, hW1⟩ : ∃ W1, w.alloc (.cells #[.int .u8 0, .int .u8 0, .int .u8 0, .int .u8 0, .int .i64 0, .int .i64 0, .int .i64 0, .int .i64 0, .int .i64 0, .int .i64 0, .int .i64 0, .int .i64 0, .int .i64 0, .int .i64 0, .int .i64 0, .int .i64 0] 33) = W1 := ⟨_, rfl⟩
  obtain ⟨W, hW⟩ : ∃ W, W1.alloc (.cells #[.int .i64 0, .slice none 0 0, .slice none 0 0] 37) = W := ⟨_, rfl⟩
  have hb1 : Below w.heap.size w W1 := by rw [← hW1]; exact (Below.refl _ _).alloc (Nat.le_refl _) _
  have hs1 : W1.heap.size = w.heap.size + 1 := by rw [← hW1]; simp
  have hb2 : Below W1.heap.size W1 W := by rw [← hW]; exact (Below.refl _ _).alloc (Nat.le_refl _) _
  have HP0 : Hid (Pr W w.heap.size p0) := by
    have : Pr W1 w.heap.size p0 := by rw [← hW1]; exact Pr.new w
    exact this.later hb2
  have HM0 : Hid (Whole W (w.heap.size + 1) 37 [.int .i64 0, .slice none 0 0, .slice none 0 0]) := by unfold Hid; rw [← hW, ← hs1]; exact Whole.new W1 37 _
  have HB0 : Hid (Below w.heap.size w W) := hb1.trans (hb2.mono hb1.size)
  have HD0 : Hid (Dp W p0 none 0 0 none 0 0) := ⟨.nil, .nil, rfl, rfl, fun _ => rfl, Nat.le_refl _, Nat.zero_le _, fun _ => rfl⟩
  have HW : Hid ((w.alloc (.cells #[.int .u8 0, .int .u8 0, .int .u8 0, .int .u8 0, .int .i64 0, .int .i64 0, .int .i64 0, .int .i64 0, .int .i64 0, .int .i64 0, .int .i64 0, .int .i64 0, .int .i64 0, .int .i64 0, .int .i64 0, .int .i64 0] 33)).alloc (.cells #[.int .i64 0, .slice none 0 0, .slice none 0 0] 37) = W) := by unfold Hid; rw [hW1, hW]
  have HROW := hide hrow
  clear hW1 hW hb1 hs1 hb2 hrow
  go_enter Try.func3, Try.ntmps3
  go_wp2
  rw [HW.out]
  go_loopw [5, 6, 7, 8, 9] (fun i _ _ _ _ wr => ∃ (k : Nat) (q : Ps) (Aq : Option Addr) (lq cq : Nat) (Bq : Option Addr) (mq dq : Nat), k ≤ 20 ∧ i = .int .i64 k ∧ Pr wr w.heap.size q ∧ Dp wr q Aq lq cq Bq mq dq ∧ Whole wr (w.heap.size + 1) 37 [.int .i64 q.st, .slice Aq lq cq, .slice Bq mq dq] ∧ PsOk q ∧ lq ≤ 20 * k ∧ Below w.heap.size w wr) (fun i _ _ _ _ _ => 20 - (intOf i).toNat)
  case atStart => exact ⟨0, p0, none, 0, 0, none, 0, 0, by omega, rfl, HP0.out, HD0.out, HM0.out, ok0, by omega, HB0.out⟩
  case round =>
    obtain ⟨k, q, Aq, lq, cq, Bq, mq, dq, hk, rfl, hp, hd, hm, hok, hlq, hbel⟩ := hrel
    by_cases h1 : k < len
    · by_cases h2 : k < 20
      · obtain ⟨b, off, rfl, hrow⟩ : ∃ b off, a = some ⟨b, off, none⟩ ∧ ∃ A n c zs, w.cell? ⟨b, off + k, none⟩ = some (.slice A n c) ∧ IsRow .u8 w A n c zs := by
          rcases HROW.out with h0 | ⟨b, off, e, h⟩
          · omega
          · exact ⟨b, off, e, h k h1⟩
        obtain ⟨Ab, nb, cb, zs, hcell, hr⟩ := hrow
        obtain ⟨hz, hl, hn0, hmaxl⟩ := hr.len
        obtain ⟨mb, hmin, hmb, hmn⟩ : ∃ m : Nat, min (nb : Int) 10 = (m : Int) ∧ m ≤ 10 ∧ m ≤ nb := ⟨min nb 10, by omega, by omega, by omega⟩
        unfold maxLen at hmaxl
        have hxi := hr.ints.take mb
        have HBY : Hid (Byte (zs.take mb)) := byte_of hr.wf mb
        have HXL : Hid ((zs.take mb).length = mb) := by unfold Hid; rw [List.length_take]; omega
        generalize zs.take mb = xs at *
        have hlb : b < w.heap.size := block_lt_of_cell hcell
        have hcw : wr.cell? ⟨b, off + k, none⟩ = some (.slice Ab nb cb) := (hbel.cell (p := ⟨b, off + k, none⟩) hlb).trans hcell
        have h2' : (k : Int) < 20 := by omega
        have h1' : (k : Int) < (len : Int) := by omega
        have mb0 : (0 : Int) ≤ (mb : Int) := by omega
        have mbc : (mb : Int) ≤ (cb : Int) := by omega
        have hlbr : b < wr.heap.size := Nat.lt_of_lt_of_le hlb hbel.size
        have hcd : wr.drew.cell? ⟨b, off + k, none⟩ = some (.slice Ab nb cb) := hcw
        have HXI := hide hxi
        have HMo := hide hm
        have HPp := hide hp
        have HDq := hide hd
        have HBq := hide hbel
        have HOK := hide hok
        have HCW := hide hcw
        have HLTw0 : Hid (∀ ad, Ab = some ad → 0 < mb → ad.block < w.heap.size) := within hxi HXL.out (Nat.le_refl _)
        clear hxi hm hp hd hbel hok hr hcell hz hn0 hcw
        go_wp2
        refine wp_region_chainH (fun w' => Below wr.heap.size wr w') [(true, 0), (true, 1), (true, 4), (true, 5), (true, 2), (true, 6), (true, 3), (false, 7), (false, 8), (false, 9), (false, 10), (false, 11)] (by kernel_rfl) (by kernel_rfl) (by kernel_rfl) (fun _ _ _ _ _ h => h) ?_ ?_
        · exact (Below.refl _ _).drewN 1
        refine chainH_take (v := ?_) (by simp only [List.getElem?_toArray, List.getElem?_cons_zero]; rfl) (by rfl) (fun w hS => ?_) ?_
        rotate_left
        · go_simp <;> with_reducible rfl
        simp only [Act.put, List.setIfInBounds_toArray, List.set_cons_zero, List.set_cons_succ]
        refine chainH_take (v := ?_) (by simp only [List.getElem?_toArray, List.getElem?_cons_zero, List.getElem?_cons_succ]; rfl) (by rfl) (fun w hS => ?_) ?_
        rotate_left
        · go_simp <;> with_reducible rfl
        simp only [Act.put, List.setIfInBounds_toArray, List.set_cons_zero, List.set_cons_succ]
        refine chainH_take (v := ?_) (by simp only [List.getElem?_toArray, List.getElem?_cons_zero, List.getElem?_cons_succ]; rfl) (by rfl) (fun w hS => ?_) ?_
        rotate_left
        · go_simp <;> with_reducible rfl
        simp only [Act.put, List.setIfInBounds_toArray, List.set_cons_zero, List.set_cons_succ]
        refine chainH_take (v := ?_) (by simp only [List.getElem?_toArray, List.getElem?_cons_zero, List.getElem?_cons_succ]; rfl) (by rfl) (fun w hS => ?_) ?_
        rotate_left
        · go_simp <;> with_reducible rfl
        simp only [Act.put, List.setIfInBounds_toArray, List.set_cons_zero, List.set_cons_succ]
        refine chainH_take (v := ?_) (by simp only [List.getElem?_toArray, List.getElem?_cons_zero, List.getElem?_cons_succ]; rfl) (by rfl) (fun w hS => ?_) ?_
        rotate_left
        · go_simp <;> with_reducible rfl
        simp only [Act.put, List.setIfInBounds_toArray, List.set_cons_zero, List.set_cons_succ]
        refine chainH_take (v := ?_) (by simp only [List.getElem?_toArray, List.getElem?_cons_zero, List.getElem?_cons_succ]; rfl) (by rfl) (fun w hS => ?_) ?_
        rotate_left
        · go_simp <;> with_reducible rfl
        simp only [Act.put, List.setIfInBounds_toArray, List.set_cons_zero, List.set_cons_succ]
        refine chainH_take (v := ?_) (by simp only [List.getElem?_toArray, List.getElem?_cons_zero, List.getElem?_cons_succ]; rfl) (by rfl) (fun w hS => ?_) ?_
        rotate_left
        · have c9 := (hS.cell (p := ⟨b, off + k, none⟩) hlbr).trans HCW.out; go_simp <;> with_reducible rfl
        simp only [Act.put, List.setIfInBounds_toArray, List.set_cons_zero, List.set_cons_succ]
        refine chainH_alone (by simp only [List.getElem?_toArray, List.getElem?_cons_zero, List.getElem?_cons_succ]; rfl) ?_
        intro K hK
        go_wp2
        refine hK.out _ _ ((Below.refl _ _).drewN 1) ?_
        clear hK K
        refine chainH_alone (by simp only [List.getElem?_toArray, List.getElem?_cons_zero, List.getElem?_cons_succ]; rfl) ?_
        intro K hK
        go_wp2
        refine hK.out _ _ ((Below.refl _ _).drewN 1) ?_
        clear hK K
        refine chainH_alone (by simp only [List.getElem?_toArray, List.getElem?_cons_zero, List.getElem?_cons_succ]; rfl) ?_
        intro K hK
        go_wp2
        refine hK.out _ _ ((Below.refl _ _).drewN 1) ?_
        clear hK K
        refine chainH_alone (by simp only [List.getElem?_toArray, List.getElem?_cons_zero, List.getElem?_cons_succ]; rfl) ?_
        intro K hK
        go_wp2
        refine hK.out _ _ ((Below.refl _ _).drewN 1) ?_
        clear hK K
        refine chainH_alone (by simp only [List.getElem?_toArray, List.getElem?_cons_zero, List.getElem?_cons_succ]; rfl) ?_
        intro K hK
        go_wp2
        refine hK.out _ _ ((Below.refl _ _).drewN 1) ?_
        clear hK K
        refine chainH_nil ?_
        have HMd : Hid (Whole wr.drew (w.heap.size + 1) 37 [.int .i64 q.st, .slice Aq lq cq, .slice Bq mq dq]) := HMo.out
        have HPd : Hid (Pr wr.drew w.heap.size q) := HPp.out
        have HDd : Hid (Dp wr.drew q Aq lq cq Bq mq dq) := HDq.out.below ((Below.refl _ _).drewN 1)
        have HBd : Hid (Below w.heap.size w wr.drew) := HBq.out.drewN 1
        have HId : Hid (Ints .u8 wr.drew Ab xs) := HXI.out.below HBd.out
        clear HMo HPp HDq HBq HCW hcd hlbr
        generalize wr.drew = wd at *
        obtain ⟨p0_, p1_, p2_, lp⟩ := cells3 HMd.out
        have hff := feed_facts xs q HOK.out HBY.out
        have HEB : Hid (∀ e ∈ (feedP q xs).2, EvB e) := feed_b xs q HOK.out HBY.out
        have HFA := hide (rpfeed_any q HOK.out Aq lq cq Bq mq dq wd HDd.out (by omega) Ab mb cb xs HId.out HXL.out (by omega) HBY.out)
        have hlq2 := HDd.out.nl
        obtain ⟨q2, es, hqe⟩ : ∃ q2 es, feedP q xs = (q2, es) := ⟨_, _, rfl⟩
        rw [hqe] at hff HEB HFA
        simp only at hff HEB HFA
        obtain ⟨hok2, hn2, hes2⟩ := hff
        rw [HXL.out] at hn2 hes2
        have HQE := hide hqe
        obtain ⟨bo, hbo⟩ : ∃ bo, restP q2 = bo := ⟨_, rfl⟩
        have HBO := hide hbo
        clear hqe hbo
        go_wp2_with fail
        refine (HFA.out).mono ?_
        rintro e w1 ⟨A2, l2, c2, B2, m2, d2, O1, n1, k1, rfl, hd, ho, hb⟩
        have hl2 : l2 ≤ 20 * (k + 1) := by have := hd.nl; omega
        have HNW := hide ho.nl
        have hn1 : n1 ≤ 40 := by rw [← ho.nl]; omega
        have HM1 := hide (HMd.out.later hb)
        have HPp1 := hide (HPd.out.later hb)
        have HB1 := hide (HBd.out.trans (hb.mono HBd.out.size))
        have HI1 := hide (HId.out.below hb)
        have HMr : Hid (Whole (((w1.setCell ⟨w.heap.size + 1, 0, none⟩ (.int .i64 q2.st)).setCell ⟨w.heap.size + 1, 1, none⟩ (.slice A2 l2 c2)).setCell ⟨w.heap.size + 1, 2, none⟩ (.slice B2 m2 d2)) (w.heap.size + 1) 37 [.int .i64 q2.st, .slice A2 l2 c2, .slice B2 m2 d2]) := put3 HM1.out _ _ _
        obtain ⟨w2, hw2⟩ : ∃ w2, (((w1.setCell ⟨w.heap.size + 1, 0, none⟩ (.int .i64 q2.st)).setCell ⟨w.heap.size + 1, 1, none⟩ (.slice A2 l2 c2)).setCell ⟨w.heap.size + 1, 2, none⟩ (.slice B2 m2 d2)).alloc (.cells #[.int .i64 q2.st, .slice A2 l2 c2, .slice B2 m2 d2] 37) = w2 := ⟨_, rfl⟩
        have hbr : Below (((w1.setCell ⟨w.heap.size + 1, 0, none⟩ (.int .i64 q2.st)).setCell ⟨w.heap.size + 1, 1, none⟩ (.slice A2 l2 c2)).setCell ⟨w.heap.size + 1, 2, none⟩ (.slice B2 m2 d2)).heap.size (((w1.setCell ⟨w.heap.size + 1, 0, none⟩ (.int .i64 q2.st)).setCell ⟨w.heap.size + 1, 1, none⟩ (.slice A2 l2 c2)).setCell ⟨w.heap.size + 1, 2, none⟩ (.slice B2 m2 d2)) w2 := by rw [← hw2]; exact (Below.refl _ _).alloc (Nat.le_refl _) _
        have hst : ∀ t, t ≠ 37 → Stays t w1 w2 := fun t ht => (stays_put3 HM1.out ht (.int .i64 q2.st) (.slice A2 l2 c2) (.slice B2 m2 d2)).trans (.of_below hbr)
        have HM2 := hide (HMr.out.later hbr)
        have HPp2 : Hid (Pr w2 w.heap.size q) := by unfold Hid; obtain ⟨l, hw⟩ := HPp1.out.whole; exact HPp1.out.same (hst 33 (by decide) _ _ hw)
        have HB2 : Hid (Below w.heap.size w w2) := (below_put3 HB1.out (by omega) _ _ _).trans (hbr.mono (below_put3 HB1.out (by omega) (.int .i64 q2.st) (.slice A2 l2 c2) (.slice B2 m2 d2)).size)
        have HI2 : Hid (Ints .u8 w2 Ab xs) := HXI.out.below HB2.out
        have HD2 := hide (hd.keep (hst 3 (by decide)) (hst 5 (by decide)))
        have HE2 := hide (ho.keep (hst 3 (by decide)) (hst 58 (by decide)))
        obtain ⟨g0_, g1_, g2_, lg⟩ := cells3 HM1.out
        have zg := HM1.out.frozen
        have HW2 := hide hw2
        clear hd ho hb hst hbr hw2 HMd HPd HBd HId HPp1 HI1 HMr HFA p0_ p1_ p2_ lp
        go_wp2_with fail
        rw [HW2.out]
        refine (pcopy_any HPp2.out).mono ?_
        rintro e w3 ⟨rfl, hpc, hb3⟩
        obtain ⟨gc, hgc⟩ : ∃ gc, w2.heap.size = gc := ⟨_, rfl⟩
        rw [hgc] at hpc ⊢
        have HM := hide (HM2.out.later hb3)
        have HD := hide (HD2.out.below hb3)
        have HE := hide (HE2.out.below hb3)
        have HPp := hide (HPp2.out.later hb3)
        have HPc := hide hpc
        have HB := hide (HB2.out.trans (hb3.mono HB2.out.size))
        have HI := hide (HI2.out.below hb3)
        have HGC : Hid (w.heap.size ≤ gc) := by unfold Hid; rw [← hgc]; exact HB2.out.size
        have HNE : Hid (w.heap.size ≠ gc) := by unfold Hid; rw [← hgc]; have := HPp2.out.lt; omega
        have HNE2 : Hid (gc ≠ w.heap.size) := by unfold Hid; exact fun h => HNE.out h.symm
        have HAc : Hid (∀ ad, Ab = some ad → 0 < mb → ad.block ≠ gc) := fun ad e q => by have h1 := HLTw0.out ad e q; have h2 := HGC.out; omega
        have HAp : Hid (∀ ad, Ab = some ad → 0 < mb → ad.block ≠ w.heap.size) := fun ad e q => by have h1 := HLTw0.out ad e q; omega
        clear hpc hb3 hgc HM2 HD2 HE2 HPp2 HB2 HI2 HM1 HB1 g0_ g1_ g2_ lg zg HW2
        go_wp2
        refine wp_region_chainL (fun w' => Whole w' (w.heap.size + 1) 37 [.int .i64 q2.st, .slice A2 l2 c2, .slice B2 m2 d2]) 28 [(1, 0), (1, 1), (1, 2), (2, 3), (2, 4), (2, 6), (1, 5), (1, 7), (1, 8), (1, 9), (1, 10), (2, 11), (2, 13), (1, 12), (1, 14), (1, 15), (1, 16), (1, 17), (0, 19), (1, 18), (1, 20), (1, 21), (1, 22), (1, 23), (1, 24), (1, 25), (1, 26), (1, 27), (3, 28)] (by kernel_rfl) (by kernel_rfl) (by kernel_rfl) (fun _ _ _ _ _ h => h) ?_ ?_
        · exact HM.out
        have HM0 : Hid (Whole w3.drew (w.heap.size + 1) 37 [.int .i64 q2.st, .slice A2 l2 c2, .slice B2 m2 d2]) := HM.out
        have HD0 : Hid (Dp w3.drew q2 A2 l2 c2 B2 m2 d2) := HD.out.below ((Below.refl _ _).drewN 1)
        have HE0 : Hid (Evo w3.drew es O1 n1 k1) := HE.out.below ((Below.refl _ _).drewN 1)
        have HPp0 : Hid (Pr w3.drew w.heap.size q) := HPp.out
        have HPc0 : Hid (Pr w3.drew gc q) := HPc.out
        have HB0 : Hid (Below w.heap.size w w3.drew) := HB.out.drewN 1
        have HI0 : Hid (Ints .u8 w3.drew Ab xs) := HI.out
        clear HM HD HE HPp HPc HB HI
        generalize w3.drew = y0 at *
        refine chainL_alone (by simp only [List.getElem?_toArray, List.getElem?_cons_zero]; rfl) ?_
        intro K hK
        go_wp2
        refine hK.out _ _ (HM0.out) ?_
        clear hK K
        refine chainL_alone (by simp only [List.getElem?_toArray, List.getElem?_cons_zero, List.getElem?_cons_succ]; rfl) ?_
        intro K hK
        go_wp2
        refine hK.out _ _ (HM0.out) ?_
        clear hK K
        refine chainL_alone (by simp only [List.getElem?_toArray, List.getElem?_cons_zero, List.getElem?_cons_succ]; rfl) ?_
        intro K hK
        go_wp2
        refine hK.out _ _ (HM0.out) ?_
        clear hK K
        refine chainL_pure (v := ?_) (by simp only [List.getElem?_toArray, List.getElem?_cons_zero, List.getElem?_cons_succ]; rfl) (by rfl) (fun w => ?_) ?_
        rotate_left
        · go_simp <;> with_reducible rfl
        simp only [Act.put, List.setIfInBounds_toArray, List.set_cons_zero, List.set_cons_succ]
        refine chainL_pure (v := ?_) (by simp only [List.getElem?_toArray, List.getElem?_cons_zero, List.getElem?_cons_succ]; rfl) (by rfl) (fun w => ?_) ?_
        rotate_left
        · go_simp <;> with_reducible rfl
        simp only [Act.put, List.setIfInBounds_toArray, List.set_cons_zero, List.set_cons_succ]
        refine chainL_pure (v := ?_) (by simp only [List.getElem?_toArray, List.getElem?_cons_zero, List.getElem?_cons_succ]; rfl) (by rfl) (fun w => ?_) ?_
        rotate_left
        · go_simp <;> with_reducible rfl
        simp only [Act.put, List.setIfInBounds_toArray, List.set_cons_zero, List.set_cons_succ]
        refine chainL_alone (by simp only [List.getElem?_toArray, List.getElem?_cons_zero, List.getElem?_cons_succ]; rfl) ?_
        intro K hK
        go_wp2_with fail
        refine (pfeed_any gc q xs Ab mb cb y0 HPc0.out HOK.out HBY.out HI0.out HXL.out (by omega) HAc.out).mono ?_
        rintro e y1 ⟨v1, rfl, ho, hp, hf⟩
        have hst : ∀ t, t ≠ 33 → Stays t y0 y1 := fun t ht => HPc0.out.stays hf ht
        have HM1 := hide ((hst 37 (by decide)).whole HM0.out)
        have HD1 := hide (HD0.out.keep (hst 3 (by decide)) (hst 5 (by decide)))
        have HE1 := hide (HE0.out.keep (hst 3 (by decide)) (hst 58 (by decide)))
        have HPp1 := hide (HPp0.out.same (hf.block _ HPp0.out.lt HNE.out))
        have HPc1 := hide hp
        have HB1 := hide (HB0.out.trans (hf.below HB0.out.size HGC.out))
        have HI1 : Hid (Ints .u8 y1 Ab xs) := HI0.out.fr hf (fun ad e q => HAc.out ad e (by rw [HXL.out] at q; exact q))
        rw [HQE.out] at ho HPc1
        simp only at ho HPc1
        obtain ⟨A5, c5, rfl, hev, -, -, -⟩ := ho.form
        rw [HNW.out]
        have HV1 := hide hev
        clear ho hp hf hst hev
        clear HM0 HD0 HE0 HPp0 HPc0 HB0 HI0
        go_wp2
        refine hK.out _ _ (HM1.out) ?_
        clear hK K
        refine chainL_alone (by simp only [List.getElem?_toArray, List.getElem?_cons_zero, List.getElem?_cons_succ]; rfl) ?_
        intro K hK
        go_wp2_with fail
        refine (lpsame_any 0 0 A5 O1 n1 n1 c5 k1 es es y1 HV1.out HE1.out.e (Nat.zero_le _) (Nat.zero_le _) HNW.out HNW.out (by omega) HEB.out).mono ?_
        rintro e y2 ⟨bo, hbo, rfl, hb⟩
        obtain rfl : bo = true := hbo.2 rfl
        clear hbo
        have HM2 := hide (HM1.out.later hb)
        have HD2 := hide (HD1.out.below hb)
        have HE2 := hide (HE1.out.below hb)
        have HPp2 := hide (HPp1.out.later hb)
        have HPc2 := hide (HPc1.out.later hb)
        have HB2 := hide (HB1.out.trans (hb.mono HB1.out.size))
        have HI2 := hide (HI1.out.below hb)
        clear hb HV1
        clear HM1 HD1 HE1 HPp1 HPc1 HB1 HI1
        go_wp2
        refine hK.out _ _ (HM2.out) ?_
        clear hK K
        refine chainL_alone (by simp only [List.getElem?_toArray, List.getElem?_cons_zero, List.getElem?_cons_succ]; rfl) ?_
        intro K hK
        go_wp2
        refine hK.out _ _ (HM2.out) ?_
        clear hK K
        refine chainL_alone (by simp only [List.getElem?_toArray, List.getElem?_cons_zero, List.getElem?_cons_succ]; rfl) ?_
        intro K hK
        go_wp2
        refine hK.out _ _ (HM2.out) ?_
        clear hK K
        refine chainL_alone (by simp only [List.getElem?_toArray, List.getElem?_cons_zero, List.getElem?_cons_succ]; rfl) ?_
        intro K hK
        go_wp2
        refine hK.out _ _ (HM2.out) ?_
        clear hK K
        refine chainL_pure (v := ?_) (by simp only [List.getElem?_toArray, List.getElem?_cons_zero, List.getElem?_cons_succ]; rfl) (by rfl) (fun w => ?_) ?_
        rotate_left
        · go_simp <;> with_reducible rfl
        simp only [Act.put, List.setIfInBounds_toArray, List.set_cons_zero, List.set_cons_succ]
        refine chainL_pure (v := ?_) (by simp only [List.getElem?_toArray, List.getElem?_cons_zero, List.getElem?_cons_succ]; rfl) (by rfl) (fun w => ?_) ?_
        rotate_left
        · go_simp <;> with_reducible rfl
        simp only [Act.put, List.setIfInBounds_toArray, List.set_cons_zero, List.set_cons_succ]
        refine chainL_alone (by simp only [List.getElem?_toArray, List.getElem?_cons_zero, List.getElem?_cons_succ]; rfl) ?_
        intro K hK
        go_wp2_with fail
        refine (pfeed_any w.heap.size q xs Ab mb cb y2 HPp2.out HOK.out HBY.out HI2.out HXL.out (by omega) HAp.out).mono ?_
        rintro e y3 ⟨v3, rfl, ho, hp, hf⟩
        have hst : ∀ t, t ≠ 33 → Stays t y2 y3 := fun t ht => HPp2.out.stays hf ht
        have HM3 := hide ((hst 37 (by decide)).whole HM2.out)
        have HD3 := hide (HD2.out.keep (hst 3 (by decide)) (hst 5 (by decide)))
        have HE3 := hide (HE2.out.keep (hst 3 (by decide)) (hst 58 (by decide)))
        have HPc3 := hide (HPc2.out.same (hf.block _ HPc2.out.lt HNE2.out))
        have HPp3 := hide hp
        have HB3 := hide (HB2.out.trans (hf.below HB2.out.size (Nat.le_refl _)))
        have HI3 : Hid (Ints .u8 y3 Ab xs) := HI2.out.fr hf (fun ad e q => HAp.out ad e (by rw [HXL.out] at q; exact q))
        rw [HQE.out] at ho HPp3
        simp only at ho HPp3
        obtain ⟨A6, c6, rfl, hev, -, -, -⟩ := ho.form
        rw [HNW.out]
        have HV3 := hide hev
        clear ho hp hf hst hev
        clear HM2 HD2 HE2 HPp2 HPc2 HB2 HI2
        go_wp2
        refine hK.out _ _ (HM3.out) ?_
        clear hK K
        refine chainL_alone (by simp only [List.getElem?_toArray, List.getElem?_cons_zero, List.getElem?_cons_succ]; rfl) ?_
        intro K hK
        go_wp2_with fail
        refine (lpsame_any 0 0 A6 O1 n1 n1 c6 k1 es es y3 HV3.out HE3.out.e (Nat.zero_le _) (Nat.zero_le _) HNW.out HNW.out (by omega) HEB.out).mono ?_
        rintro e y4 ⟨bo, hbo, rfl, hb⟩
        obtain rfl : bo = true := hbo.2 rfl
        clear hbo
        have HM4 := hide (HM3.out.later hb)
        have HD4 := hide (HD3.out.below hb)
        have HE4 := hide (HE3.out.below hb)
        have HPp4 := hide (HPp3.out.later hb)
        have HPc4 := hide (HPc3.out.later hb)
        have HB4 := hide (HB3.out.trans (hb.mono HB3.out.size))
        have HI4 := hide (HI3.out.below hb)
        clear hb HV3
        clear HM3 HD3 HE3 HPp3 HPc3 HB3 HI3
        go_wp2
        refine hK.out _ _ (HM4.out) ?_
        clear hK K
        refine chainL_alone (by simp only [List.getElem?_toArray, List.getElem?_cons_zero, List.getElem?_cons_succ]; rfl) ?_
        intro K hK
        go_wp2
        refine hK.out _ _ (HM4.out) ?_
        clear hK K
        refine chainL_alone (by simp only [List.getElem?_toArray, List.getElem?_cons_zero, List.getElem?_cons_succ]; rfl) ?_
        intro K hK
        go_wp2
        refine hK.out _ _ (HM4.out) ?_
        clear hK K
        refine chainL_alone (by simp only [List.getElem?_toArray, List.getElem?_cons_zero, List.getElem?_cons_succ]; rfl) ?_
        intro K hK
        go_wp2
        refine hK.out _ _ (HM4.out) ?_
        clear hK K
        refine chainL_take (v := ?_) (by simp only [List.getElem?_toArray, List.getElem?_cons_zero, List.getElem?_cons_succ]; rfl) (by rfl) (fun w hS => ?_) ?_
        rotate_left
        · obtain ⟨a0_, a1_, a2_, la⟩ := cells3 hS; go_simp <;> with_reducible rfl
        simp only [Act.put, List.setIfInBounds_toArray, List.set_cons_zero, List.set_cons_succ]
        refine chainL_alone (by simp only [List.getElem?_toArray, List.getElem?_cons_zero, List.getElem?_cons_succ]; rfl) ?_
        intro K hK
        go_wp2_with fail
        refine (prest_any HPp4.out bo HBO.out).mono ?_
        rintro e y5 ⟨rfl, hb⟩
        have HM5 := hide (HM4.out.later hb)
        have HD5 := hide (HD4.out.below hb)
        have HE5 := hide (HE4.out.below hb)
        have HPp5 := hide (HPp4.out.later hb)
        have HPc5 := hide (HPc4.out.later hb)
        have HB5 := hide (HB4.out.trans (hb.mono HB4.out.size))
        have HI5 := hide (HI4.out.below hb)
        clear hb
        clear HM4 HD4 HE4 HPp4 HPc4 HB4 HI4
        go_wp2
        refine hK.out _ _ (HM5.out) ?_
        clear hK K
        refine chainL_alone (by simp only [List.getElem?_toArray, List.getElem?_cons_zero, List.getElem?_cons_succ]; rfl) ?_
        intro K hK
        go_wp2_with fail
        refine (rprest_any q2 A2 l2 c2 B2 m2 d2 y5 HD5.out bo HBO.out).mono ?_
        rintro e y6 ⟨rfl, hb⟩
        have HM6 := hide (HM5.out.later hb)
        have HD6 := hide (HD5.out.below hb)
        have HE6 := hide (HE5.out.below hb)
        have HPp6 := hide (HPp5.out.later hb)
        have HPc6 := hide (HPc5.out.later hb)
        have HB6 := hide (HB5.out.trans (hb.mono HB5.out.size))
        have HI6 := hide (HI5.out.below hb)
        clear hb
        clear HM5 HD5 HE5 HPp5 HPc5 HB5 HI5
        go_wp2
        refine hK.out _ _ (HM6.out) ?_
        clear hK K
        refine chainL_alone (by simp only [List.getElem?_toArray, List.getElem?_cons_zero, List.getElem?_cons_succ]; rfl) ?_
        intro K hK
        go_wp2
        refine hK.out _ _ (HM6.out) ?_
        clear hK K
        refine chainL_alone (by simp only [List.getElem?_toArray, List.getElem?_cons_zero, List.getElem?_cons_succ]; rfl) ?_
        intro K hK
        go_wp2
        refine hK.out _ _ (HM6.out) ?_
        clear hK K
        refine chainL_alone (by simp only [List.getElem?_toArray, List.getElem?_cons_zero, List.getElem?_cons_succ]; rfl) ?_
        intro K hK
        go_wp2
        refine hK.out _ _ (HM6.out) ?_
        clear hK K
        refine chainL_alone (by simp only [List.getElem?_toArray, List.getElem?_cons_zero, List.getElem?_cons_succ]; rfl) ?_
        intro K hK
        go_wp2
        refine hK.out _ _ (HM6.out) ?_
        clear hK K
        refine chainL_alone (by simp only [List.getElem?_toArray, List.getElem?_cons_zero, List.getElem?_cons_succ]; rfl) ?_
        intro K hK
        go_wp2_with fail
        refine (prest_any HPc6.out bo HBO.out).mono ?_
        rintro e y7 ⟨rfl, hb⟩
        have HM7 := hide (HM6.out.later hb)
        have HD7 := hide (HD6.out.below hb)
        have HE7 := hide (HE6.out.below hb)
        have HPp7 := hide (HPp6.out.later hb)
        have HPc7 := hide (HPc6.out.later hb)
        have HB7 := hide (HB6.out.trans (hb.mono HB6.out.size))
        have HI7 := hide (HI6.out.below hb)
        clear hb
        clear HM6 HD6 HE6 HPp6 HPc6 HB6 HI6
        go_wp2
        refine hK.out _ _ (HM7.out) ?_
        clear hK K
        refine chainL_alone (by simp only [List.getElem?_toArray, List.getElem?_cons_zero, List.getElem?_cons_succ]; rfl) ?_
        intro K hK
        go_wp2_with fail
        refine (prest_any HPp7.out bo HBO.out).mono ?_
        rintro e y8 ⟨rfl, hb⟩
        have HM8 := hide (HM7.out.later hb)
        have HD8 := hide (HD7.out.below hb)
        have HE8 := hide (HE7.out.below hb)
        have HPp8 := hide (HPp7.out.later hb)
        have HPc8 := hide (HPc7.out.later hb)
        have HB8 := hide (HB7.out.trans (hb.mono HB7.out.size))
        have HI8 := hide (HI7.out.below hb)
        clear hb
        clear HM7 HD7 HE7 HPp7 HPc7 HB7 HI7
        go_wp2
        refine hK.out _ _ (HM8.out) ?_
        clear hK K
        refine chainL_alone (by simp only [List.getElem?_toArray, List.getElem?_cons_zero, List.getElem?_cons_succ]; rfl) ?_
        intro K hK
        go_wp2
        refine hK.out _ _ (HM8.out) ?_
        clear hK K
        refine chainL_late (by simp only [List.getElem?_toArray, List.getElem?_cons_zero, List.getElem?_cons_succ]; rfl) ?_
        intro K hK
        go_wp2
        refine hK.out _ _ ?_
        clear hK K
        refine chainL_nil ?_
        have kc : (convert 35 35 (.slice (some ⟨y8.heap.size, 0, none⟩) 5 5)).run Try.prog (y8.alloc (.cells #[.int .u8 27, .int .u8 91, .int .u8 49, .int .u8 50, .int .u8 59] 5)) = .ok (.slice (some ⟨y8.heap.size, 0, none⟩) 5 5) (y8.alloc (.cells #[.int .u8 27, .int .u8 91, .int .u8 49, .int .u8 50, .int .u8 59] 5 (5, 6))) := Lib.run_convert_bytes_const (P := Try.prog) y8 35 5 #[.int .u8 27, .int .u8 91, .int .u8 49, .int .u8 50, .int .u8 59] 5 5 Try.underlying35 Try.underlying5
        obtain ⟨y9, hy9⟩ : ∃ y9, y8.alloc (.cells #[.int .u8 27, .int .u8 91, .int .u8 49, .int .u8 50, .int .u8 59] 5 (5, 6)) = y9 := ⟨_, rfl⟩
        have hb : Below y8.heap.size y8 y9 := by rw [← hy9]; exact (Below.refl _ _).alloc (Nat.le_refl _) _
        have HX9 : Hid (Ints .u8 y9 (some ⟨y8.heap.size, 0, none⟩) [27, 91, 49, 50, 59]) := by unfold Hid; rw [← hy9]; exact Ints.newF .u8 y8 5 (5, 6) [27, 91, 49, 50, 59]
        have HM9 := hide (HM8.out.later hb)
        have HD9 := hide (HD8.out.below hb)
        have HE9 := hide (HE8.out.below hb)
        have HPp9 := hide (HPp8.out.later hb)
        have HPc9 := hide (HPc8.out.later hb)
        have HB9 := hide (HB8.out.trans (hb.mono HB8.out.size))
        have HI9 := hide (HI8.out.below hb)
        have HGL := hide HPc8.out.lt
        have HY9 := hide hy9
        clear hb hy9
        clear HM8 HD8 HE8 HPp8 HPc8 HB8 HI8
        go_wp2_with fail
        rw [HY9.out]
        refine (pfeed_any gc q2 [27, 91, 49, 50, 59] (some ⟨y8.heap.size, 0, none⟩) 5 5 y9 HPc9.out hok2 feed_extra HX9.out rfl (by omega) (by intro ad e _; cases e; have := HGL.out; simp; omega)).mono ?_
        rintro e w9 ⟨v9, rfl, ho, hp, hf⟩
        have hst : ∀ t, t ≠ 33 → Stays t y9 w9 := fun t ht => HPc9.out.stays hf ht
        have HMz := hide ((hst 37 (by decide)).whole HM9.out)
        have HDz := hide (HD9.out.keep (hst 3 (by decide)) (hst 5 (by decide)))
        have HPz := hide (HPp9.out.same (hf.block _ HPp9.out.lt HNE.out))
        have HBz := hide (HB9.out.trans (hf.below HB9.out.size HGC.out))
        clear ho hp hf hst
        go_wp2
        go_roundw
        case rel => exact ⟨k + 1, q2, A2, l2, c2, B2, m2, d2, by omega, by go_num, HPz.out, HDz.out, HMz.out, hok2, hl2, HBz.out⟩
        case measure => simp [intOf]; omega
      · have h2' : decide ((k : Int) < 20) = false := by simp; omega
        have HFF := hide hok
        obtain ⟨p0_, p1_, p2_, lp⟩ := cells3 hm
        have HMo := hide hm
        have HPp := hide hp
        have HDq := hide hd
        have HBq := hide hbel
        clear hm hp hd hbel hok
        go_wp2_with fail
        refine (rpflush_any q Aq lq cq Bq mq dq wr HDq.out).mono ?_
        rintro e w1 ⟨A2, l2, c2, B2, m2, d2, O1, n1, k1, rfl, hd, ho, hb⟩
        obtain ⟨w2, hw2⟩ : ∃ w2, w1.alloc (.cells #[.int .i64 0, .slice A2 l2 c2, .slice B2 m2 d2] 37) = w2 := ⟨_, rfl⟩
        obtain ⟨gn, hgn⟩ : ∃ gn, w1.heap.size = gn := ⟨_, rfl⟩
        have hb2 : Below w1.heap.size w1 w2 := by rw [← hw2]; exact (Below.refl _ _).alloc (Nat.le_refl _) _
        have HMn : Hid (Whole w2 gn 37 [.int .i64 0, .slice A2 l2 c2, .slice B2 m2 d2]) := by unfold Hid; rw [← hw2, ← hgn]; exact Whole.new w1 37 _
        have HD := hide (hd.below hb2)
        have HE := hide (ho.below hb2)
        replace HPp := hide ((HPp.out.later hb).later hb2)
        have HB : Hid (Below w.heap.size w w2) := (HBq.out.trans (hb.mono HBq.out.size)).trans (hb2.mono (Nat.le_trans HBq.out.size hb.size))
        have HW2 := hide hw2
        have HNW := hide ho.nl
        have hbl := brk_len q.h
        rw [HNW.out] at hbl
        have HGN := hide hgn
        clear hd ho hb hb2 hw2 hgn p0_ p1_ p2_ lp
        go_wp2
        rw [HW2.out, HGN.out]
        refine wp_region_chainL (fun w' => Whole w' gn 37 [.int .i64 0, .slice A2 l2 c2, .slice B2 m2 d2]) 15 [(1, 0), (1, 1), (2, 3), (1, 2), (1, 4), (1, 5), (1, 6), (0, 8), (1, 7), (1, 9), (1, 10), (1, 11), (1, 12), (1, 13), (1, 14), (3, 15)] (by kernel_rfl) (by kernel_rfl) (by kernel_rfl) (fun _ _ _ _ _ h => h) ?_ ?_
        · exact HMn.out
        have HM0 : Hid (Whole w2.drew gn 37 [.int .i64 0, .slice A2 l2 c2, .slice B2 m2 d2]) := HMn.out
        have HD0 : Hid (Dp w2.drew ⟨0, q.n, []⟩ A2 l2 c2 B2 m2 d2) := HD.out.below ((Below.refl _ _).drewN 1)
        have HE0 : Hid (Evo w2.drew (brkE q.h) O1 n1 k1) := HE.out.below ((Below.refl _ _).drewN 1)
        have HPp0 : Hid (Pr w2.drew w.heap.size q) := HPp.out
        have HB0 : Hid (Below w.heap.size w w2.drew) := HB.out.drewN 1
        clear HMn HD HE HPp HB
        generalize w2.drew = y0 at *
        refine chainL_alone (by simp only [List.getElem?_toArray, List.getElem?_cons_zero]; rfl) ?_
        intro K hK
        go_wp2_with fail
        refine (pknown_any y0).mono ?_
        rintro e y1 ⟨rfl, hb⟩
        have HM1 := hide (HM0.out.later hb)
        have HD1 := hide (HD0.out.below hb)
        have HE1 := hide (HE0.out.below hb)
        have HPp1 := hide (HPp0.out.later hb)
        have HB1 := hide (HB0.out.trans (hb.mono HB0.out.size))
        clear hb
        clear HM0 HD0 HE0 HPp0 HB0
        go_wp2
        refine hK.out _ _ (HM1.out) ?_
        clear hK K
        refine chainL_alone (by simp only [List.getElem?_toArray, List.getElem?_cons_zero, List.getElem?_cons_succ]; rfl) ?_
        intro K hK
        go_wp2
        refine hK.out _ _ (HM1.out) ?_
        clear hK K
        refine chainL_pure (v := ?_) (by simp only [List.getElem?_toArray, List.getElem?_cons_zero, List.getElem?_cons_succ]; rfl) (by rfl) (fun w => ?_) ?_
        rotate_left
        · go_simp <;> with_reducible rfl
        simp only [Act.put, List.setIfInBounds_toArray, List.set_cons_zero, List.set_cons_succ]
        refine chainL_alone (by simp only [List.getElem?_toArray, List.getElem?_cons_zero, List.getElem?_cons_succ]; rfl) ?_
        intro K hK
        go_wp2_with fail
        refine (pflush_any HPp1.out).mono ?_
        rintro e y2 ⟨v2, rfl, ho, hp, hf⟩
        have hst : ∀ t, t ≠ 33 → Stays t y1 y2 := fun t ht => HPp1.out.stays hf ht
        have HM2 := hide ((hst 37 (by decide)).whole HM1.out)
        have HD2 := hide (HD1.out.keep (hst 3 (by decide)) (hst 5 (by decide)))
        have HE2 := hide (HE1.out.keep (hst 3 (by decide)) (hst 58 (by decide)))
        have HPp2 := hide hp
        have HB2 := hide (HB1.out.trans (hf.below HB1.out.size (Nat.le_refl _)))
        obtain ⟨A6, c6, rfl, hev, -, -, -⟩ := ho.form
        rw [HNW.out]
        have HV2 := hide hev
        clear ho hp hf hst hev
        clear HM1 HD1 HE1 HPp1 HB1
        go_wp2
        refine hK.out _ _ (HM2.out) ?_
        clear hK K
        refine chainL_alone (by simp only [List.getElem?_toArray, List.getElem?_cons_zero, List.getElem?_cons_succ]; rfl) ?_
        intro K hK
        go_wp2_with fail
        refine (lpsame_any 0 0 A6 O1 n1 n1 c6 k1 (brkE q.h) (brkE q.h) y2 HV2.out HE2.out.e (Nat.zero_le _) (Nat.zero_le _) HNW.out HNW.out (by omega) (brk_b q.h)).mono ?_
        rintro e y3 ⟨bo, hbo, rfl, hb⟩
        obtain rfl : bo = true := hbo.2 rfl
        clear hbo
        have HM3 := hide (HM2.out.later hb)
        have HD3 := hide (HD2.out.below hb)
        have HE3 := hide (HE2.out.below hb)
        have HPp3 := hide (HPp2.out.later hb)
        have HB3 := hide (HB2.out.trans (hb.mono HB2.out.size))
        clear hb HV2
        clear HM2 HD2 HE2 HPp2 HB2
        go_wp2
        refine hK.out _ _ (HM3.out) ?_
        clear hK K
        refine chainL_alone (by simp only [List.getElem?_toArray, List.getElem?_cons_zero, List.getElem?_cons_succ]; rfl) ?_
        intro K hK
        go_wp2
        refine hK.out _ _ (HM3.out) ?_
        clear hK K
        refine chainL_alone (by simp only [List.getElem?_toArray, List.getElem?_cons_zero, List.getElem?_cons_succ]; rfl) ?_
        intro K hK
        go_wp2
        refine hK.out _ _ (HM3.out) ?_
        clear hK K
        refine chainL_take (v := ?_) (by simp only [List.getElem?_toArray, List.getElem?_cons_zero, List.getElem?_cons_succ]; rfl) (by rfl) (fun w hS => ?_) ?_
        rotate_left
        · obtain ⟨a0_, a1_, a2_, la⟩ := cells3 hS; go_simp <;> with_reducible rfl
        simp only [Act.put, List.setIfInBounds_toArray, List.set_cons_zero, List.set_cons_succ]
        refine chainL_alone (by simp only [List.getElem?_toArray, List.getElem?_cons_zero, List.getElem?_cons_succ]; rfl) ?_
        intro K hK
        go_wp2_with fail
        refine (prest_any HPp3.out true rfl).mono ?_
        rintro e y4 ⟨rfl, hb⟩
        have HM4 := hide (HM3.out.later hb)
        have HD4 := hide (HD3.out.below hb)
        have HE4 := hide (HE3.out.below hb)
        have HPp4 := hide (HPp3.out.later hb)
        have HB4 := hide (HB3.out.trans (hb.mono HB3.out.size))
        clear hb
        clear HM3 HD3 HE3 HPp3 HB3
        go_wp2
        refine hK.out _ _ (HM4.out) ?_
        clear hK K
        refine chainL_alone (by simp only [List.getElem?_toArray, List.getElem?_cons_zero, List.getElem?_cons_succ]; rfl) ?_
        intro K hK
        go_wp2_with fail
        refine (rprest_any ⟨0, q.n, []⟩ A2 l2 c2 B2 m2 d2 y4 HD4.out true rfl).mono ?_
        rintro e y5 ⟨rfl, hb⟩
        have HM5 := hide (HM4.out.later hb)
        have HD5 := hide (HD4.out.below hb)
        have HE5 := hide (HE4.out.below hb)
        have HPp5 := hide (HPp4.out.later hb)
        have HB5 := hide (HB4.out.trans (hb.mono HB4.out.size))
        clear hb
        clear HM4 HD4 HE4 HPp4 HB4
        go_wp2
        refine hK.out _ _ (HM5.out) ?_
        clear hK K
        refine chainL_alone (by simp only [List.getElem?_toArray, List.getElem?_cons_zero, List.getElem?_cons_succ]; rfl) ?_
        intro K hK
        go_wp2
        refine hK.out _ _ (HM5.out) ?_
        clear hK K
        refine chainL_alone (by simp only [List.getElem?_toArray, List.getElem?_cons_zero, List.getElem?_cons_succ]; rfl) ?_
        intro K hK
        go_wp2
        refine hK.out _ _ (HM5.out) ?_
        clear hK K
        refine chainL_alone (by simp only [List.getElem?_toArray, List.getElem?_cons_zero, List.getElem?_cons_succ]; rfl) ?_
        intro K hK
        go_wp2
        refine hK.out _ _ (HM5.out) ?_
        clear hK K
        refine chainL_alone (by simp only [List.getElem?_toArray, List.getElem?_cons_zero, List.getElem?_cons_succ]; rfl) ?_
        intro K hK
        go_wp2_with fail
        refine (prest_any HPp5.out true rfl).mono ?_
        rintro e y6 ⟨rfl, hb⟩
        have HM6 := hide (HM5.out.later hb)
        have HD6 := hide (HD5.out.below hb)
        have HE6 := hide (HE5.out.below hb)
        have HPp6 := hide (HPp5.out.later hb)
        have HB6 := hide (HB5.out.trans (hb.mono HB5.out.size))
        clear hb
        clear HM5 HD5 HE5 HPp5 HB5
        go_wp2
        refine hK.out _ _ (HM6.out) ?_
        clear hK K
        refine chainL_alone (by simp only [List.getElem?_toArray, List.getElem?_cons_zero, List.getElem?_cons_succ]; rfl) ?_
        intro K hK
        go_wp2
        refine hK.out _ _ (HM6.out) ?_
        clear hK K
        refine chainL_late (by simp only [List.getElem?_toArray, List.getElem?_cons_zero, List.getElem?_cons_succ]; rfl) ?_
        intro K hK
        go_wp2
        refine hK.out _ _ ?_
        clear hK K
        refine chainL_nil ?_
        go_wp2
        go_ret
        exact ⟨rfl, HB6.out⟩
    · have h1' : decide ((k : Int) < (len : Int)) = false := by simp; omega
      have HFF := hide hok
      obtain ⟨p0_, p1_, p2_, lp⟩ := cells3 hm
      have HMo := hide hm
      have HPp := hide hp
      have HDq := hide hd
      have HBq := hide hbel
      clear hm hp hd hbel hok
      go_wp2_with fail
      refine (rpflush_any q Aq lq cq Bq mq dq wr HDq.out).mono ?_
      rintro e w1 ⟨A2, l2, c2, B2, m2, d2, O1, n1, k1, rfl, hd, ho, hb⟩
      obtain ⟨w2, hw2⟩ : ∃ w2, w1.alloc (.cells #[.int .i64 0, .slice A2 l2 c2, .slice B2 m2 d2] 37) = w2 := ⟨_, rfl⟩
      obtain ⟨gn, hgn⟩ : ∃ gn, w1.heap.size = gn := ⟨_, rfl⟩
      have hb2 : Below w1.heap.size w1 w2 := by rw [← hw2]; exact (Below.refl _ _).alloc (Nat.le_refl _) _
      have HMn : Hid (Whole w2 gn 37 [.int .i64 0, .slice A2 l2 c2, .slice B2 m2 d2]) := by unfold Hid; rw [← hw2, ← hgn]; exact Whole.new w1 37 _
      have HD := hide (hd.below hb2)
      have HE := hide (ho.below hb2)
      replace HPp := hide ((HPp.out.later hb).later hb2)
      have HB : Hid (Below w.heap.size w w2) := (HBq.out.trans (hb.mono HBq.out.size)).trans (hb2.mono (Nat.le_trans HBq.out.size hb.size))
      have HW2 := hide hw2
      have HNW := hide ho.nl
      have hbl := brk_len q.h
      rw [HNW.out] at hbl
      have HGN := hide hgn
      clear hd ho hb hb2 hw2 hgn p0_ p1_ p2_ lp
      go_wp2
      rw [HW2.out, HGN.out]
      refine wp_region_chainL (fun w' => Whole w' gn 37 [.int .i64 0, .slice A2 l2 c2, .slice B2 m2 d2]) 15 [(1, 0), (1, 1), (2, 3), (1, 2), (1, 4), (1, 5), (1, 6), (0, 8), (1, 7), (1, 9), (1, 10), (1, 11), (1, 12), (1, 13), (1, 14), (3, 15)] (by kernel_rfl) (by kernel_rfl) (by kernel_rfl) (fun _ _ _ _ _ h => h) ?_ ?_
      · exact HMn.out
      have HM0 : Hid (Whole w2.drew gn 37 [.int .i64 0, .slice A2 l2 c2, .slice B2 m2 d2]) := HMn.out
      have HD0 : Hid (Dp w2.drew ⟨0, q.n, []⟩ A2 l2 c2 B2 m2 d2) := HD.out.below ((Below.refl _ _).drewN 1)
      have HE0 : Hid (Evo w2.drew (brkE q.h) O1 n1 k1) := HE.out.below ((Below.refl _ _).drewN 1)
      have HPp0 : Hid (Pr w2.drew w.heap.size q) := HPp.out
      have HB0 : Hid (Below w.heap.size w w2.drew) := HB.out.drewN 1
      clear HMn HD HE HPp HB
      generalize w2.drew = y0 at *
      refine chainL_alone (by simp only [List.getElem?_toArray, List.getElem?_cons_zero]; rfl) ?_
      intro K hK
      go_wp2_with fail
      refine (pknown_any y0).mono ?_
      rintro e y1 ⟨rfl, hb⟩
      have HM1 := hide (HM0.out.later hb)
      have HD1 := hide (HD0.out.below hb)
      have HE1 := hide (HE0.out.below hb)
      have HPp1 := hide (HPp0.out.later hb)
      have HB1 := hide (HB0.out.trans (hb.mono HB0.out.size))
      clear hb
      clear HM0 HD0 HE0 HPp0 HB0
      go_wp2
      refine hK.out _ _ (HM1.out) ?_
      clear hK K
      refine chainL_alone (by simp only [List.getElem?_toArray, List.getElem?_cons_zero, List.getElem?_cons_succ]; rfl) ?_
      intro K hK
      go_wp2
      refine hK.out _ _ (HM1.out) ?_
      clear hK K
      refine chainL_pure (v := ?_) (by simp only [List.getElem?_toArray, List.getElem?_cons_zero, List.getElem?_cons_succ]; rfl) (by rfl) (fun w => ?_) ?_
      rotate_left
      · go_simp <;> with_reducible rfl
      simp only [Act.put, List.setIfInBounds_toArray, List.set_cons_zero, List.set_cons_succ]
      refine chainL_alone (by simp only [List.getElem?_toArray, List.getElem?_cons_zero, List.getElem?_cons_succ]; rfl) ?_
      intro K hK
      go_wp2_with fail
      refine (pflush_any HPp1.out).mono ?_
      rintro e y2 ⟨v2, rfl, ho, hp, hf⟩
      have hst : ∀ t, t ≠ 33 → Stays t y1 y2 := fun t ht => HPp1.out.stays hf ht
      have HM2 := hide ((hst 37 (by decide)).whole HM1.out)
      have HD2 := hide (HD1.out.keep (hst 3 (by decide)) (hst 5 (by decide)))
      have HE2 := hide (HE1.out.keep (hst 3 (by decide)) (hst 58 (by decide)))
      have HPp2 := hide hp
      have HB2 := hide (HB1.out.trans (hf.below HB1.out.size (Nat.le_refl _)))
      obtain ⟨A6, c6, rfl, hev, -, -, -⟩ := ho.form
      rw [HNW.out]
      have HV2 := hide hev
      clear ho hp hf hst hev
      clear HM1 HD1 HE1 HPp1 HB1
      go_wp2
      refine hK.out _ _ (HM2.out) ?_
      clear hK K
      refine chainL_alone (by simp only [List.getElem?_toArray, List.getElem?_cons_zero, List.getElem?_cons_succ]; rfl) ?_
      intro K hK
      go_wp2_with fail
      refine (lpsame_any 0 0 A6 O1 n1 n1 c6 k1 (brkE q.h) (brkE q.h) y2 HV2.out HE2.out.e (Nat.zero_le _) (Nat.zero_le _) HNW.out HNW.out (by omega) (brk_b q.h)).mono ?_
      rintro e y3 ⟨bo, hbo, rfl, hb⟩
      obtain rfl : bo = true := hbo.2 rfl
      clear hbo
      have HM3 := hide (HM2.out.later hb)
      have HD3 := hide (HD2.out.below hb)
      have HE3 := hide (HE2.out.below hb)
      have HPp3 := hide (HPp2.out.later hb)
      have HB3 := hide (HB2.out.trans (hb.mono HB2.out.size))
      clear hb HV2
      clear HM2 HD2 HE2 HPp2 HB2
      go_wp2
      refine hK.out _ _ (HM3.out) ?_
      clear hK K
      refine chainL_alone (by simp only [List.getElem?_toArray, List.getElem?_cons_zero, List.getElem?_cons_succ]; rfl) ?_
      intro K hK
      go_wp2
      refine hK.out _ _ (HM3.out) ?_
      clear hK K
      refine chainL_alone (by simp only [List.getElem?_toArray, List.getElem?_cons_zero, List.getElem?_cons_succ]; rfl) ?_
      intro K hK
      go_wp2
      refine hK.out _ _ (HM3.out) ?_
      clear hK K
      refine chainL_take (v := ?_) (by simp only [List.getElem?_toArray, List.getElem?_cons_zero, List.getElem?_cons_succ]; rfl) (by rfl) (fun w hS => ?_) ?_
      rotate_left
      · obtain ⟨a0_, a1_, a2_, la⟩ := cells3 hS; go_simp <;> with_reducible rfl
      simp only [Act.put, List.setIfInBounds_toArray, List.set_cons_zero, List.set_cons_succ]
      refine chainL_alone (by simp only [List.getElem?_toArray, List.getElem?_cons_zero, List.getElem?_cons_succ]; rfl) ?_
      intro K hK
      go_wp2_with fail
      refine (prest_any HPp3.out true rfl).mono ?_
      rintro e y4 ⟨rfl, hb⟩
      have HM4 := hide (HM3.out.later hb)
      have HD4 := hide (HD3.out.below hb)
      have HE4 := hide (HE3.out.below hb)
      have HPp4 := hide (HPp3.out.later hb)
      have HB4 := hide (HB3.out.trans (hb.mono HB3.out.size))
      clear hb
      clear HM3 HD3 HE3 HPp3 HB3
      go_wp2
      refine hK.out _ _ (HM4.out) ?_
      clear hK K
      refine chainL_alone (by simp only [List.getElem?_toArray, List.getElem?_cons_zero, List.getElem?_cons_succ]; rfl) ?_
      intro K hK
      go_wp2_with fail
      refine (rprest_any ⟨0, q.n, []⟩ A2 l2 c2 B2 m2 d2 y4 HD4.out true rfl).mono ?_
      rintro e y5 ⟨rfl, hb⟩
      have HM5 := hide (HM4.out.later hb)
      have HD5 := hide (HD4.out.below hb)
      have HE5 := hide (HE4.out.below hb)
      have HPp5 := hide (HPp4.out.later hb)
      have HB5 := hide (HB4.out.trans (hb.mono HB4.out.size))
      clear hb
      clear HM4 HD4 HE4 HPp4 HB4
      go_wp2
      refine hK.out _ _ (HM5.out) ?_
      clear hK K
      refine chainL_alone (by simp only [List.getElem?_toArray, List.getElem?_cons_zero, List.getElem?_cons_succ]; rfl) ?_
      intro K hK
      go_wp2
      refine hK.out _ _ (HM5.out) ?_
      clear hK K
      refine chainL_alone (by simp only [List.getElem?_toArray, List.getElem?_cons_zero, List.getElem?_cons_succ]; rfl) ?_
      intro K hK
      go_wp2
      refine hK.out _ _ (HM5.out) ?_
      clear hK K
      refine chainL_alone (by simp only [List.getElem?_toArray, List.getElem?_cons_zero, List.getElem?_cons_succ]; rfl) ?_
      intro K hK
      go_wp2
      refine hK.out _ _ (HM5.out) ?_
      clear hK K
      refine chainL_alone (by simp only [List.getElem?_toArray, List.getElem?_cons_zero, List.getElem?_cons_succ]; rfl) ?_
      intro K hK
      go_wp2_with fail
      refine (prest_any HPp5.out true rfl).mono ?_
      rintro e y6 ⟨rfl, hb⟩
      have HM6 := hide (HM5.out.later hb)
      have HD6 := hide (HD5.out.below hb)
      have HE6 := hide (HE5.out.below hb)
      have HPp6 := hide (HPp5.out.later hb)
      have HB6 := hide (HB5.out.trans (hb.mono HB5.out.size))
      clear hb
      clear HM5 HD5 HE5 HPp5 HB5
      go_wp2
      refine hK.out _ _ (HM6.out) ?_
      clear hK K
      refine chainL_alone (by simp only [List.getElem?_toArray, List.getElem?_cons_zero, List.getElem?_cons_succ]; rfl) ?_
      intro K hK
      go_wp2
      refine hK.out _ _ (HM6.out) ?_
      clear hK K
      refine chainL_late (by simp only [List.getElem?_toArray, List.getElem?_cons_zero, List.getElem?_cons_succ]; rfl) ?_
      intro K hK
      go_wp2
      refine hK.out _ _ ?_
      clear hK K
      refine chainL_nil ?_
      go_wp2
      go_ret
      exact ⟨rfl, HB6.out⟩
end Go.Proofs.Ytfngnmopdfojmaa
