/-
  Contract: a line with a cell at a place (the program's).
-/
import Derived.Test.YtdeoeihbmdgipaaDoorLMark
import Derived.Test.YtdeoeihbmdgipaaDoorLErase
import Derived.Test.YtdeoeihbmdgipaaDoorCRight
namespace Go.Proofs.YtdeoeihbmdgipaaDoor
open Go.ChangeShapes Go.WideShapes Go.ChangeAt Go.RowKit
set_option linter.unusedVariables false

theorem putOk_no {cs : List Cel} {a : Int} {c : Cel} (h : ¬ (rightC c = true ∧ c.w ≠ 0 ∧ 0 ≤ a ∧ a + (c.w : Int) ≤ (cs.length : Int))) : putOk cs a c = false := by unfold putOk; exact decide_eq_false h
theorem putOk_yes {cs : List Cel} {a : Int} {c : Cel} (h : rightC c = true ∧ c.w ≠ 0 ∧ 0 ≤ a ∧ a + (c.w : Int) ≤ (cs.length : Int)) : putOk cs a c = true := by unfold putOk; exact decide_eq_true h
theorem put_no {cs : List Cel} {a : Int} {c : Cel} (h : putOk cs a c = false) : putC cs a c = cs := by unfold putC; rw [h]; simp
theorem put_yes {cs : List Cel} {a : Int} {c : Cel} (h : putOk cs a c = true) : putC cs a c = mendC (putTab cs a.toNat c) := by unfold putC; rw [if_pos h]
theorem putTab_len (cs : List Cel) (k : Nat) (c : Cel) : (putTab cs k c).length = cs.length := tab_len _ _
theorem put_len (cs : List Cel) (a : Int) (c : Cel) : (putC cs a c).length = cs.length := by
  unfold putC; split
  · rw [mend_len, putTab_len]
  · rfl
theorem lay_put (cs : List Cel) (k : Nat) (c : Cel) (hw : c.w = 1 ∨ c.w = 2) (h : k + c.w ≤ cs.length) : layC cs k ([c, restC c].take c.w) = putTab cs k c := by
  have hl : ([c, restC c].take c.w).length = c.w := by simp; omega
  rw [lay_tab _ _ _ (by omega), hl]
  unfold putTab
  refine tab_eq fun i hi => ?_
  rcases hw with hw | hw
  · rw [hw]
    by_cases h1 : i = k
    · subst h1; rw [if_pos (by omega), if_pos rfl]; unfold cAt; simp
    · rw [if_neg (by omega), if_neg h1, if_neg (by omega)]
  · rw [hw]
    by_cases h1 : i = k
    · subst h1; rw [if_pos (by omega), if_pos rfl]; unfold cAt; simp
    · by_cases h2 : i = k + 1
      · subst h2; rw [if_pos (by omega), if_neg h1, if_pos ⟨rfl, rfl⟩, show k + 1 - k = 1 by omega]; unfold cAt; simp
      · rw [if_neg (by omega), if_neg h1, if_neg (by omega)]
theorem cels_two (w : World) (t : TypeId) (c d : Cel) : Cels .i32 (w.alloc (.cells #[.int .i32 c.r, .int .i32 c.m, .int .i32 c.n, .int .u8 (c.w : Int), .int .u8 (c.p.f : Int), .int .u8 (c.p.g : Int), .int .u8 (c.p.b : Int), .int .i32 d.r, .int .i32 d.m, .int .i32 d.n, .int .u8 (d.w : Int), .int .u8 (d.p.f : Int), .int .u8 (d.p.g : Int), .int .u8 (d.p.b : Int)] t)) (some ⟨w.heap.size, 0, none⟩) [c, d] :=
  (Whole.new w t (flatC .i32 [c, d])).cels
set_option maxRecDepth 100000 in
set_option maxHeartbeats 4000000 in
theorem put_any (A : Option Addr) (n c : Nat) (at_ : Int) (r m x : Int) (d f g b : Nat) (hd : d < 256) (cs : List Cel) (w : World) (h : Cels .i32 w A cs) (hn : cs.length = n) (hl : n ≤ 1000000) (hS : Spans w) (ha : -9223372036854775808 ≤ at_ ∧ at_ < 9223372036854775808) :
    Calls Tryd.prog 9 #[.slice A n c, .int .i64 at_, .agg #[.int .i32 r, .int .i32 m, .int .i32 x, .int .u8 (d : Int), .int .u8 (f : Int), .int .u8 (g : Int), .int .u8 (b : Int)]] w (Lined2 (putC cs at_ ⟨r, m, x, d, ⟨f, g, b⟩⟩) (putOk cs at_ ⟨r, m, x, d, ⟨f, g, b⟩⟩) w) := by
  have HN := hide hn
  obtain ⟨W0, hW0⟩ : ∃ W0, w.alloc (.cells #[.int .i32 r, .int .i32 m, .int .i32 x, .int .u8 (d : Int), .int .u8 (f : Int), .int .u8 (g : Int), .int .u8 (b : Int)] 27) = W0 := ⟨_, rfl⟩
  have HB0 : Hid (Below w.heap.size w W0) := by unfold Hid; rw [← hW0]; exact (Below.refl _ _).alloc (Nat.le_refl _) _
  have HP0 : Hid (Whole W0 w.heap.size 27 [.int .i32 r, .int .i32 m, .int .i32 x, .int .u8 (d : Int), .int .u8 (f : Int), .int .u8 (g : Int), .int .u8 (b : Int)]) := by unfold Hid; rw [← hW0]; exact Whole.new w 27 [.int .i32 r, .int .i32 m, .int .i32 x, .int .u8 (d : Int), .int .u8 (f : Int), .int .u8 (g : Int), .int .u8 (b : Int)]
  have HC0 : Hid (Cels .i32 W0 A cs) := by unfold Hid; rw [← hW0]; exact h.alloc _
  have HS0 : Hid (Spans W0) := by unfold Hid; rw [← hW0]; exact hS.alloc _
  have HW0 := hide hW0
  obtain ⟨R, hR⟩ : ∃ R, rightC ⟨r, m, x, d, ⟨f, g, b⟩⟩ = R := ⟨_, rfl⟩
  have key : (R = false ∧ putOk cs at_ ⟨r, m, x, d, ⟨f, g, b⟩⟩ = false) ∨ (R = true ∧ d = 0 ∧ putOk cs at_ ⟨r, m, x, d, ⟨f, g, b⟩⟩ = false) ∨ (R = true ∧ d ≠ 0 ∧ at_ < 0 ∧ putOk cs at_ ⟨r, m, x, d, ⟨f, g, b⟩⟩ = false) ∨ (R = true ∧ d ≠ 0 ∧ 0 ≤ at_ ∧ (n : Int) - d < at_ ∧ putOk cs at_ ⟨r, m, x, d, ⟨f, g, b⟩⟩ = false) ∨ (R = true ∧ d ≠ 0 ∧ 0 ≤ at_ ∧ at_ ≤ (n : Int) - d ∧ putOk cs at_ ⟨r, m, x, d, ⟨f, g, b⟩⟩ = true) := by
    cases R
    · exact .inl ⟨rfl, putOk_no (by rw [hR]; simp)⟩
    · by_cases h0 : d = 0
      · exact .inr (.inl ⟨rfl, h0, putOk_no (by simp [h0])⟩)
      · by_cases h1 : at_ < 0
        · exact .inr (.inr (.inl ⟨rfl, h0, h1, putOk_no (by rintro ⟨_, _, q, _⟩; omega)⟩))
        · by_cases h2 : (n : Int) - d < at_
          · exact .inr (.inr (.inr (.inl ⟨rfl, h0, by omega, h2, putOk_no (by rintro ⟨_, _, _, q⟩; simp only at q; omega)⟩)))
          · exact .inr (.inr (.inr (.inr ⟨rfl, h0, by omega, by omega, putOk_yes ⟨hR, h0, by omega, by simp only; omega⟩⟩)))
  have HR := hide hR
  clear h hn hW0 hS hR
  go_enter Tryd.func9, Tryd.ntmps9
  go_wp2
  rw [HW0.out]
  refine wp_region_chainH (fun w' => Below W0.heap.size W0 w') [(true, 0), (true, 2), (true, 3), (true, 4), (false, 1), (false, 5), (false, 6)] (by kernel_rfl) (by kernel_rfl) (by kernel_rfl) (fun _ _ _ _ _ h => h) ?_ ?_
  · exact (Below.refl _ _).drewN 1
  refine chainH_take (v := ?_) (by simp only [List.getElem?_toArray, List.getElem?_cons_zero]; rfl) (by rfl) (fun w hS => ?_) ?_
  rotate_left
  · go_simp <;> with_reducible rfl
  simp only [Act.put, List.setIfInBounds_toArray, List.set_cons_zero, List.set_cons_succ]
  refine chainH_take (v := ?_) (by simp only [List.getElem?_toArray, List.getElem?_cons_zero, List.getElem?_cons_succ]; rfl) (by rfl) (fun w hS => ?_) ?_
  rotate_left
  · go_simp <;> with_reducible rfl
  simp only [Act.put, List.setIfInBounds_toArray, List.set_cons_zero, List.set_cons_succ]
  refine chainH_take (v := ?_) (by simp only [List.getElem?_toArray, List.getElem?_cons_zero, List.getElem?_cons_succ]; rfl) (by rfl) (fun w hS => ?_) ?_
  rotate_left
  · have f3 := (HP0.out.later hS).cell 3; simp only [List.getElem?_cons_zero, List.getElem?_cons_succ] at f3; go_simp <;> with_reducible rfl
  simp only [Act.put, List.setIfInBounds_toArray, List.set_cons_zero, List.set_cons_succ]
  refine chainH_take (v := ?_) (by simp only [List.getElem?_toArray, List.getElem?_cons_zero, List.getElem?_cons_succ]; rfl) (by rfl) (fun w hS => ?_) ?_
  rotate_left
  · go_simp <;> with_reducible rfl
  simp only [Act.put, List.setIfInBounds_toArray, List.set_cons_zero, List.set_cons_succ]
  refine chainH_alone (by simp only [List.getElem?_toArray, List.getElem?_cons_zero, List.getElem?_cons_succ]; rfl) ?_
  intro K hK
  go_wp2_with fail
  refine (copied_any A n c cs _ (HC0.out.drewN 1) HN.out hl).mono ?_
  rintro e k1 ⟨g1, rfl, hg, hw, hb⟩
  rw [HN.out]
  have Bk1 : Below W0.heap.size W0 k1 := ((Below.refl _ _).drewN 1).trans hb
  have HG1 := hide hw
  have HGE : Hid (W0.heap.size ≤ g1) := hg
  clear hb hw hg
  go_wp2
  refine hK.out _ _ Bk1 ?_
  clear hK K
  refine chainH_alone (by simp only [List.getElem?_toArray, List.getElem?_cons_zero, List.getElem?_cons_succ]; rfl) ?_
  intro K hK
  go_wp2
  refine hK.out _ _ Bk1 ?_
  clear hK K
  refine chainH_alone (by simp only [List.getElem?_toArray, List.getElem?_cons_zero, List.getElem?_cons_succ]; rfl) ?_
  intro K hK
  go_wp2
  refine hK.out _ _ Bk1 ?_
  clear hK K
  refine chainH_nil ?_
  have HB1 := hide (HB0.out.trans (Bk1.mono HB0.out.size))
  have HS1 := hide (HS0.out.below Bk1)
  have HP1 := hide (HP0.out.later Bk1)
  have HG : Hid (w.heap.size ≤ g1) := by unfold Hid; exact Nat.le_trans HB0.out.size HGE.out
  have HNP : Hid (w.heap.size ≠ g1) := by unfold Hid; have := HP0.out.lt; have := HGE.out; omega
  clear Bk1
  obtain ⟨a0, a1, a2, a3, a4, a5, a6, -⟩ := cells7 HP1.out
  go_wp2_with fail
  refine (cright_any r m x d f g b hd k1 HS1.out).mono ?_
  rintro e w2 ⟨rfl, hb⟩
  rw [HR.out]
  clear a0 a1 a2 a3 a4 a5 a6
  have HB2 := hide (HB1.out.trans (hb.mono HB1.out.size))
  have HP2 := hide (HP1.out.later hb)
  have HG2 := hide (HG1.out.later hb)
  clear hb HS0 HC0 HP0 HB0 HS1 HP1 HG1 HB1
  obtain ⟨a0, a1, a2, a3, a4, a5, a6, -⟩ := cells7 HP2.out
  rcases key with ⟨rfl, hk⟩ | ⟨rfl, h0, hk⟩ | ⟨rfl, h0, h1, hk⟩ | ⟨rfl, h0, h1, h2, hk⟩ | ⟨rfl, h0, h1, h2, hk⟩
  · have HK := hide hk
    clear hk
    go_wp2
    go_ret2
    exact ⟨g1, by rw [HK.out, put_no HK.out, HN.out]; rfl, HG.out, by rw [put_no HK.out]; exact HG2.out, HB2.out⟩
  · have HK := hide hk
    have e0 : ((d : Int) == 0) = true := by simp; omega
    clear hk h0
    go_wp2
    go_ret2
    exact ⟨g1, by rw [HK.out, put_no HK.out, HN.out]; rfl, HG.out, by rw [put_no HK.out]; exact HG2.out, HB2.out⟩
  · have HK := hide hk
    have e0 : ((d : Int) == 0) = false := by simp; omega
    clear hk h0
    go_wp2
    go_ret2
    exact ⟨g1, by rw [HK.out, put_no HK.out, HN.out]; rfl, HG.out, by rw [put_no HK.out]; exact HG2.out, HB2.out⟩
  · have HK := hide hk
    have e0 : ((d : Int) == 0) = false := by simp; omega
    clear hk h0
    go_wp2
    go_ret2
    exact ⟨g1, by rw [HK.out, put_no HK.out, HN.out]; rfl, HG.out, by rw [put_no HK.out]; exact HG2.out, HB2.out⟩
  · have HK := hide hk
    have hd2 : d = 1 ∨ d = 2 := by rcases right_w HR.out with q | q | q; exact absurd q h0; exact .inl q; exact .inr q
    have e0 : ((d : Int) == 0) = false := by simp; omega
    obtain ⟨k, rfl⟩ : ∃ k : Nat, at_ = (k : Int) := ⟨at_.toNat, by omega⟩
    have hk2 : k + d ≤ n := by omega
    have HL := hide (lay_put cs k ⟨r, m, x, d, ⟨f, g, b⟩⟩ hd2 (by rw [HN.out]; exact hk2))
    have ed : ((k + d : Nat) : Int) = (k : Int) + (d : Int) := by omega
    clear hk h0
    go_wp2
    refine wp_region_chainH (fun w' => Only g1 w2 w') [(true, 0), (true, 1), (true, 2), (true, 3), (true, 4), (true, 6), (true, 7), (false, 5), (false, 8), (false, 9), (false, 10)] (by kernel_rfl) (by kernel_rfl) (by kernel_rfl) (fun _ _ _ _ _ h => h) ?_ ?_
    · exact Only.of_below ((Below.refl _ _).drewN 1)
    refine chainH_take (v := ?_) (by simp only [List.getElem?_toArray, List.getElem?_cons_zero]; rfl) (by rfl) (fun w hS => ?_) ?_
    rotate_left
    · go_simp <;> with_reducible rfl
    simp only [Act.put, List.setIfInBounds_toArray, List.set_cons_zero, List.set_cons_succ]
    refine chainH_take (v := ?_) (by simp only [List.getElem?_toArray, List.getElem?_cons_zero, List.getElem?_cons_succ]; rfl) (by rfl) (fun w hS => ?_) ?_
    rotate_left
    · go_simp <;> with_reducible rfl
    simp only [Act.put, List.setIfInBounds_toArray, List.set_cons_zero, List.set_cons_succ]
    refine chainH_take (v := ?_) (by simp only [List.getElem?_toArray, List.getElem?_cons_zero, List.getElem?_cons_succ]; rfl) (by rfl) (fun w hS => ?_) ?_
    rotate_left
    · go_simp <;> with_reducible rfl
    simp only [Act.put, List.setIfInBounds_toArray, List.set_cons_zero, List.set_cons_succ]
    refine chainH_take (v := ?_) (by simp only [List.getElem?_toArray, List.getElem?_cons_zero, List.getElem?_cons_succ]; rfl) (by rfl) (fun w hS => ?_) ?_
    rotate_left
    · go_simp <;> with_reducible rfl
    simp only [Act.put, List.setIfInBounds_toArray, List.set_cons_zero, List.set_cons_succ]
    refine chainH_take (v := ?_) (by simp only [List.getElem?_toArray, List.getElem?_cons_zero, List.getElem?_cons_succ]; rfl) (by rfl) (fun w hS => ?_) ?_
    rotate_left
    · go_simp <;> with_reducible rfl
    simp only [Act.put, List.setIfInBounds_toArray, List.set_cons_zero, List.set_cons_succ]
    refine chainH_take (v := ?_) (by simp only [List.getElem?_toArray, List.getElem?_cons_zero, List.getElem?_cons_succ]; rfl) (by rfl) (fun w hS => ?_) ?_
    rotate_left
    · obtain ⟨a0, a1, a2, a3, a4, a5, a6, -⟩ := cells7 (HP2.out.far hS HNP.out); go_simp <;> with_reducible rfl
    simp only [Act.put, List.setIfInBounds_toArray, List.set_cons_zero, List.set_cons_succ]
    refine chainH_take (v := ?_) (by simp only [List.getElem?_toArray, List.getElem?_cons_zero, List.getElem?_cons_succ]; rfl) (by rfl) (fun w hS => ?_) ?_
    rotate_left
    · obtain ⟨a0, a1, a2, a3, a4, a5, a6, -⟩ := cells7 (HP2.out.far hS HNP.out); go_simp <;> with_reducible rfl
    simp only [Act.put, List.setIfInBounds_toArray, List.set_cons_zero, List.set_cons_succ]
    refine chainH_alone (by simp only [List.getElem?_toArray, List.getElem?_cons_zero, List.getElem?_cons_succ]; rfl) ?_
    intro K hK
    go_wp2_with fail
    have hcut := cut_any g1 n k (k + d) w2.drew (by omega) hk2
    rw [ed, show k + d - k = d by omega] at hcut
    refine hcut.mono ?_
    rintro e j1 ⟨rfl, rfl⟩
    clear hcut
    have Oj1 : Only g1 w2 w2.drew := Only.of_below ((Below.refl _ _).drewN 1)
    go_wp2
    refine hK.out _ _ Oj1 ?_
    clear hK K
    refine chainH_alone (by simp only [List.getElem?_toArray, List.getElem?_cons_zero, List.getElem?_cons_succ]; rfl) ?_
    intro K hK
    go_wp2_with fail
    refine (rest_v r m x d f g b _).mono ?_
    rintro e j2 ⟨rfl, hb⟩
    have Oj2 : Only g1 w2 j2 := Oj1.trans (Only.of_below hb)
    have Wj2 := hide ((HG2.out.drewN 1).later (w' := j2) hb)
    have HJ2 := hide Oj2
    clear hb
    go_wp2
    refine hK.out _ _ Oj2 ?_
    clear hK K
    refine chainH_alone (by simp only [List.getElem?_toArray, List.getElem?_cons_zero, List.getElem?_cons_succ]; rfl) ?_
    intro K hK
    go_wp2
    have Oj3 : Only g1 w2 (j2.alloc (.cells #[.int .i32 r, .int .i32 m, .int .i32 x, .int .u8 (d : Int), .int .u8 (f : Int), .int .u8 (g : Int), .int .u8 (b : Int), .int .i32 0, .int .i32 0, .int .i32 0, .int .u8 0, .int .u8 (f : Int), .int .u8 (g : Int), .int .u8 (b : Int)] 27)) := HJ2.out.trans (Only.of_below ((Below.refl _ _).alloc (Nat.le_refl _) _))
    refine hK.out _ _ Oj3 ?_
    clear hK K
    obtain ⟨j3, hj3⟩ : ∃ j3, j2.alloc (.cells #[.int .i32 r, .int .i32 m, .int .i32 x, .int .u8 (d : Int), .int .u8 (f : Int), .int .u8 (g : Int), .int .u8 (b : Int), .int .i32 0, .int .i32 0, .int .i32 0, .int .u8 0, .int .u8 (f : Int), .int .u8 (g : Int), .int .u8 (b : Int)] 27) = j3 := ⟨_, rfl⟩
    have Cj3 : Hid (Cels .i32 j3 (some ⟨j2.heap.size, 0, none⟩) [⟨r, m, x, d, ⟨f, g, b⟩⟩, restC ⟨r, m, x, d, ⟨f, g, b⟩⟩]) := by unfold Hid; rw [← hj3]; exact cels_two j2 27 ⟨r, m, x, d, ⟨f, g, b⟩⟩ (restC ⟨r, m, x, d, ⟨f, g, b⟩⟩)
    have Wj3 : Hid (Whole j3 g1 27 (flatC .i32 cs)) := by unfold Hid; rw [← hj3]; exact Wj2.out.alloc _
    rw [hj3]
    rw [hj3] at Oj3
    have HJ3 := hide Oj3
    clear hj3 Oj3
    obtain ⟨j4, hrun, hw4, ho4⟩ := run_copyL elemL j3 3 g1 k 27 cs [⟨r, m, x, d, ⟨f, g, b⟩⟩, restC ⟨r, m, x, d, ⟨f, g, b⟩⟩] (some ⟨j2.heap.size, 0, none⟩) d d 2 2 Wj3.out Cj3.out rfl (by rw [HN.out]; omega)
    have Oj4 : Only g1 w2 j4 := HJ3.out.trans ho4
    have HJ4 := hide Oj4
    have Wj4 : Hid (Whole j4 g1 27 (flatC .i32 (putTab cs k ⟨r, m, x, d, ⟨f, g, b⟩⟩))) := by unfold Hid; rw [← HL.out]; exact hw4
    clear hw4 ho4
    refine chainH_alone (by simp only [List.getElem?_toArray, List.getElem?_cons_zero, List.getElem?_cons_succ]; rfl) ?_
    intro K hK
    go_wp2
    refine hK.out _ _ HJ4.out ?_
    clear hK K
    refine chainH_nil ?_
    clear Oj1 Oj2 Oj4 hrun
    go_wp2_with fail
    refine (mendown_any g1 n (putTab cs k ⟨r, m, x, d, ⟨f, g, b⟩⟩) j4 Wj4.out (by rw [putTab_len, HN.out]) hl).mono ?_
    rintro e j5 ⟨rfl, hw, ho⟩
    have HW5 := hide hw
    have HO5 := hide ho
    clear hw ho
    go_wp2
    go_ret2
    exact ⟨g1, by rw [HK.out, put_len, HN.out]; rfl, HG.out, by rw [put_yes HK.out]; exact HW5.out, (HJ4.out.trans HO5.out).below HB2.out HB2.out.size HG.out⟩
end Go.Proofs.YtdeoeihbmdgipaaDoor
