/-
  Contract: a line with a cell at a place (the program's).
  Contracts: the document's Put and Mark.
  Contracts: are lines the same, cell by cell (both).
  Contracts: is a line the document's (the law's Same); the chapter's example.
  The contracts once more, as the laws' walks want them; numbers that fit stay so.
  Plain mathematics of layer 6, what follows: what is made of a right line is right; what is done twice. No Go text, no program.
  Plain mathematics of layer 7 (grid): rows of lines with a cursor; what is put, marked, erased, laid, moved, scrolled, fitted, and that it stays right. No Go text, no program.
-/
import Derived.Test.YtkijclgbpbhglaaGreatDoorQa5
import Derived.Test.YtkijclgbpbhglaaGreatDoorQa4
import Derived.Test.YtkijclgbpbhglaaGreatDoorQa1
namespace Go.Proofs.YtkijclgbpbhglaaGreatDoor
set_option maxRecDepth 100000
open Go.ChangeShapes Go.WideShapes Go.ChangeAt Go.RowKit
set_option linter.unusedVariables false

theorem putOk_no {cs : List Cel} {a : Int} {c : Cel} (h : ¬ (rightC c = true ∧ c.w ≠ 0 ∧ 0 ≤ a ∧ a + (c.w : Int) ≤ (cs.length : Int))) : putOk cs a c = false := by unfold putOk; exact decide_eq_false h
theorem putOk_yes {cs : List Cel} {a : Int} {c : Cel} (h : rightC c = true ∧ c.w ≠ 0 ∧ 0 ≤ a ∧ a + (c.w : Int) ≤ (cs.length : Int)) : putOk cs a c = true := by unfold putOk; exact decide_eq_true h
theorem put_no {cs : List Cel} {a : Int} {c : Cel} (h : putOk cs a c = false) : putC cs a c = cs := by unfold putC; rw [h]; simp
theorem put_yes {cs : List Cel} {a : Int} {c : Cel} (h : putOk cs a c = true) : putC cs a c = mendC (putTab cs a.toNat c) := by unfold putC; rw [if_pos h]
theorem putTab_len (cs : List Cel) (k : Nat) (c : Cel) : (putTab cs k c).length = cs.length := tab_len _ _
theorem put_len (cs : List Cel) (a : Int) (c : Cel) : (putC cs a c).length = cs.length := by
  unfold putC; split
  · rw [mend_len, putTab_len]
  · rfl
theorem lay_put (cs : List Cel) (k : Nat) (c : Cel) (hw : c.w = 1 ∨ c.w = 2) (h : k + c.w ≤ cs.length) : layC cs k ([c, restC c].take c.w) = putTab cs k c := by
  have hl : ([c, restC c].take c.w).length = c.w := by simp; omega
  rw [lay_tab _ _ _ (by omega), hl]
  unfold putTab
  refine tab_eq fun i hi => ?_
  rcases hw with hw | hw
  · rw [hw]
    by_cases h1 : i = k
    · subst h1; rw [if_pos (by omega), if_pos rfl]; unfold cAt; simp
    · rw [if_neg (by omega), if_neg h1, if_neg (by omega)]
  · rw [hw]
    by_cases h1 : i = k
    · subst h1; rw [if_pos (by omega), if_pos rfl]; unfold cAt; simp
    · by_cases h2 : i = k + 1
      · subst h2; rw [if_pos (by omega), if_neg h1, if_pos ⟨rfl, rfl⟩, show k + 1 - k = 1 by omega]; unfold cAt; simp
      · rw [if_neg (by omega), if_neg h1, if_neg (by omega)]
theorem cels_two (w : World) (t : TypeId) (c d : Cel) : Cels .i32 (w.alloc (.cells #[.int .i32 c.r, .int .i32 c.m, .int .i32 c.n, .int .u8 (c.w : Int), .int .u8 (c.p.f : Int), .int .u8 (c.p.g : Int), .int .u8 (c.p.b : Int), .int .i32 d.r, .int .i32 d.m, .int .i32 d.n, .int .u8 (d.w : Int), .int .u8 (d.p.f : Int), .int .u8 (d.p.g : Int), .int .u8 (d.p.b : Int)] t)) (some ⟨w.heap.size, 0, none⟩) [c, d] :=
  (Whole.new w t (flatC .i32 [c, d])).cels
set_option maxRecDepth 100000 in
set_option maxHeartbeats 4000000 in
theorem put_any (A : Option Addr) (n c : Nat) (at_ : Int) (r m x : Int) (d f g b : Nat) (hd : d < 256) (cs : List Cel) (w : World) (h : Cels .i32 w A cs) (hn : cs.length = n) (hl : n ≤ 1000000) (hS : Spans w) (ha : -9223372036854775808 ≤ at_ ∧ at_ < 9223372036854775808) :
    Calls Tryz.prog 197 #[.slice A n c, .int .i64 at_, .agg #[.int .i32 r, .int .i32 m, .int .i32 x, .int .u8 (d : Int), .int .u8 (f : Int), .int .u8 (g : Int), .int .u8 (b : Int)]] w (Lined2 (putC cs at_ ⟨r, m, x, d, ⟨f, g, b⟩⟩) (putOk cs at_ ⟨r, m, x, d, ⟨f, g, b⟩⟩) w) := by
  have HN := hide hn
  obtain ⟨W0, hW0⟩ : ∃ W0, w.alloc (.cells #[.int .i32 r, .int .i32 m, .int .i32 x, .int .u8 (d : Int), .int .u8 (f : Int), .int .u8 (g : Int), .int .u8 (b : Int)] 73) = W0 := ⟨_, rfl⟩
  have HB0 : Hid (Below w.heap.size w W0) := by unfold Hid; rw [← hW0]; exact (Below.refl _ _).alloc (Nat.le_refl _) _
  have HP0 : Hid (Whole W0 w.heap.size 73 [.int .i32 r, .int .i32 m, .int .i32 x, .int .u8 (d : Int), .int .u8 (f : Int), .int .u8 (g : Int), .int .u8 (b : Int)]) := by unfold Hid; rw [← hW0]; exact Whole.new w 73 [.int .i32 r, .int .i32 m, .int .i32 x, .int .u8 (d : Int), .int .u8 (f : Int), .int .u8 (g : Int), .int .u8 (b : Int)]
  have HC0 : Hid (Cels .i32 W0 A cs) := by unfold Hid; rw [← hW0]; exact h.alloc _
  have HS0 : Hid (Spans W0) := by unfold Hid; rw [← hW0]; exact hS.alloc _
  have HW0 := hide hW0
  obtain ⟨R, hR⟩ : ∃ R, rightC ⟨r, m, x, d, ⟨f, g, b⟩⟩ = R := ⟨_, rfl⟩
  have key : (R = false ∧ putOk cs at_ ⟨r, m, x, d, ⟨f, g, b⟩⟩ = false) ∨ (R = true ∧ d = 0 ∧ putOk cs at_ ⟨r, m, x, d, ⟨f, g, b⟩⟩ = false) ∨ (R = true ∧ d ≠ 0 ∧ at_ < 0 ∧ putOk cs at_ ⟨r, m, x, d, ⟨f, g, b⟩⟩ = false) ∨ (R = true ∧ d ≠ 0 ∧ 0 ≤ at_ ∧ (n : Int) - d < at_ ∧ putOk cs at_ ⟨r, m, x, d, ⟨f, g, b⟩⟩ = false) ∨ (R = true ∧ d ≠ 0 ∧ 0 ≤ at_ ∧ at_ ≤ (n : Int) - d ∧ putOk cs at_ ⟨r, m, x, d, ⟨f, g, b⟩⟩ = true) := by
    cases R
    · exact .inl ⟨rfl, putOk_no (by rw [hR]; simp)⟩
    · by_cases h0 : d = 0
      · exact .inr (.inl ⟨rfl, h0, putOk_no (by simp [h0])⟩)
      · by_cases h1 : at_ < 0
        · exact .inr (.inr (.inl ⟨rfl, h0, h1, putOk_no (by rintro ⟨_, _, q, _⟩; omega)⟩))
        · by_cases h2 : (n : Int) - d < at_
          · exact .inr (.inr (.inr (.inl ⟨rfl, h0, by omega, h2, putOk_no (by rintro ⟨_, _, _, q⟩; simp only at q; omega)⟩)))
          · exact .inr (.inr (.inr (.inr ⟨rfl, h0, by omega, by omega, putOk_yes ⟨hR, h0, by omega, by simp only; omega⟩⟩)))
  have HR := hide hR
  clear h hn hW0 hS hR
  go_enter Tryz.func197, Tryz.ntmps197
  go_wp2
  rw [HW0.out]
  refine wp_region_chainH (fun w' => Below W0.heap.size W0 w') [(true, 0), (true, 2), (true, 3), (true, 4), (false, 1), (false, 5), (false, 6)] (by kernel_rfl) (by kernel_rfl) (by kernel_rfl) (fun _ _ _ _ _ h => h) ?_ ?_
  · exact (Below.refl _ _).drewN 1
  refine chainH_take (v := ?_) (by simp only [List.getElem?_toArray, List.getElem?_cons_zero]; rfl) (by rfl) (fun w hS => ?_) ?_
  rotate_left
  · go_simp <;> with_reducible rfl
  simp only [Act.put, List.setIfInBounds_toArray, List.set_cons_zero, List.set_cons_succ]
  refine chainH_take (v := ?_) (by simp only [List.getElem?_toArray, List.getElem?_cons_zero, List.getElem?_cons_succ]; rfl) (by rfl) (fun w hS => ?_) ?_
  rotate_left
  · go_simp <;> with_reducible rfl
  simp only [Act.put, List.setIfInBounds_toArray, List.set_cons_zero, List.set_cons_succ]
  refine chainH_take (v := ?_) (by simp only [List.getElem?_toArray, List.getElem?_cons_zero, List.getElem?_cons_succ]; rfl) (by rfl) (fun w hS => ?_) ?_
  rotate_left
  · have f3 := (HP0.out.later hS).cell 3; simp only [List.getElem?_cons_zero, List.getElem?_cons_succ] at f3; go_simp <;> with_reducible rfl
  simp only [Act.put, List.setIfInBounds_toArray, List.set_cons_zero, List.set_cons_succ]
  refine chainH_take (v := ?_) (by simp only [List.getElem?_toArray, List.getElem?_cons_zero, List.getElem?_cons_succ]; rfl) (by rfl) (fun w hS => ?_) ?_
  rotate_left
  · go_simp <;> with_reducible rfl
  simp only [Act.put, List.setIfInBounds_toArray, List.set_cons_zero, List.set_cons_succ]
  refine chainH_alone (by simp only [List.getElem?_toArray, List.getElem?_cons_zero, List.getElem?_cons_succ]; rfl) ?_
  intro K hK
  go_wp2_with fail
  refine (copied_any A n c cs _ (HC0.out.drewN 1) HN.out hl).mono ?_
  rintro e k1 ⟨g1, rfl, hg, hw, hb⟩
  rw [HN.out]
  have Bk1 : Below W0.heap.size W0 k1 := ((Below.refl _ _).drewN 1).trans hb
  have HG1 := hide hw
  have HGE : Hid (W0.heap.size ≤ g1) := hg
  clear hb hw hg
  go_wp2
  refine hK.out _ _ Bk1 ?_
  clear hK K
  refine chainH_alone (by simp only [List.getElem?_toArray, List.getElem?_cons_zero, List.getElem?_cons_succ]; rfl) ?_
  intro K hK
  go_wp2
  refine hK.out _ _ Bk1 ?_
  clear hK K
  refine chainH_alone (by simp only [List.getElem?_toArray, List.getElem?_cons_zero, List.getElem?_cons_succ]; rfl) ?_
  intro K hK
  go_wp2
  refine hK.out _ _ Bk1 ?_
  clear hK K
  refine chainH_nil ?_
  have HB1 := hide (HB0.out.trans (Bk1.mono HB0.out.size))
  have HS1 := hide (HS0.out.below Bk1)
  have HP1 := hide (HP0.out.later Bk1)
  have HG : Hid (w.heap.size ≤ g1) := by unfold Hid; exact Nat.le_trans HB0.out.size HGE.out
  have HNP : Hid (w.heap.size ≠ g1) := by unfold Hid; have := HP0.out.lt; have := HGE.out; omega
  clear Bk1
  obtain ⟨a0, a1, a2, a3, a4, a5, a6, -⟩ := cells7 HP1.out
  go_wp2_with fail
  refine (cright_any r m x d f g b hd k1 HS1.out).mono ?_
  rintro e w2 ⟨rfl, hb⟩
  rw [HR.out]
  clear a0 a1 a2 a3 a4 a5 a6
  have HB2 := hide (HB1.out.trans (hb.mono HB1.out.size))
  have HP2 := hide (HP1.out.later hb)
  have HG2 := hide (HG1.out.later hb)
  clear hb HS0 HC0 HP0 HB0 HS1 HP1 HG1 HB1
  obtain ⟨a0, a1, a2, a3, a4, a5, a6, -⟩ := cells7 HP2.out
  rcases key with ⟨rfl, hk⟩ | ⟨rfl, h0, hk⟩ | ⟨rfl, h0, h1, hk⟩ | ⟨rfl, h0, h1, h2, hk⟩ | ⟨rfl, h0, h1, h2, hk⟩
  · have HK := hide hk
    clear hk
    go_wp2
    go_ret2
    exact ⟨g1, by rw [HK.out, put_no HK.out, HN.out]; rfl, HG.out, by rw [put_no HK.out]; exact HG2.out, HB2.out⟩
  · have HK := hide hk
    have e0 : ((d : Int) == 0) = true := by simp; omega
    clear hk h0
    go_wp2
    go_ret2
    exact ⟨g1, by rw [HK.out, put_no HK.out, HN.out]; rfl, HG.out, by rw [put_no HK.out]; exact HG2.out, HB2.out⟩
  · have HK := hide hk
    have e0 : ((d : Int) == 0) = false := by simp; omega
    clear hk h0
    go_wp2
    go_ret2
    exact ⟨g1, by rw [HK.out, put_no HK.out, HN.out]; rfl, HG.out, by rw [put_no HK.out]; exact HG2.out, HB2.out⟩
  · have HK := hide hk
    have e0 : ((d : Int) == 0) = false := by simp; omega
    clear hk h0
    go_wp2
    go_ret2
    exact ⟨g1, by rw [HK.out, put_no HK.out, HN.out]; rfl, HG.out, by rw [put_no HK.out]; exact HG2.out, HB2.out⟩
  · have HK := hide hk
    have hd2 : d = 1 ∨ d = 2 := by rcases right_w HR.out with q | q | q; exact absurd q h0; exact .inl q; exact .inr q
    have e0 : ((d : Int) == 0) = false := by simp; omega
    obtain ⟨k, rfl⟩ : ∃ k : Nat, at_ = (k : Int) := ⟨at_.toNat, by omega⟩
    have hk2 : k + d ≤ n := by omega
    have HL := hide (lay_put cs k ⟨r, m, x, d, ⟨f, g, b⟩⟩ hd2 (by rw [HN.out]; exact hk2))
    have ed : ((k + d : Nat) : Int) = (k : Int) + (d : Int) := by omega
    clear hk h0
    go_wp2
    refine wp_region_chainH (fun w' => Only g1 w2 w') [(true, 0), (true, 1), (true, 2), (true, 3), (true, 4), (true, 6), (true, 7), (false, 5), (false, 8), (false, 9), (false, 10)] (by kernel_rfl) (by kernel_rfl) (by kernel_rfl) (fun _ _ _ _ _ h => h) ?_ ?_
    · exact Only.of_below ((Below.refl _ _).drewN 1)
    refine chainH_take (v := ?_) (by simp only [List.getElem?_toArray, List.getElem?_cons_zero]; rfl) (by rfl) (fun w hS => ?_) ?_
    rotate_left
    · go_simp <;> with_reducible rfl
    simp only [Act.put, List.setIfInBounds_toArray, List.set_cons_zero, List.set_cons_succ]
    refine chainH_take (v := ?_) (by simp only [List.getElem?_toArray, List.getElem?_cons_zero, List.getElem?_cons_succ]; rfl) (by rfl) (fun w hS => ?_) ?_
    rotate_left
    · go_simp <;> with_reducible rfl
    simp only [Act.put, List.setIfInBounds_toArray, List.set_cons_zero, List.set_cons_succ]
    refine chainH_take (v := ?_) (by simp only [List.getElem?_toArray, List.getElem?_cons_zero, List.getElem?_cons_succ]; rfl) (by rfl) (fun w hS => ?_) ?_
    rotate_left
    · go_simp <;> with_reducible rfl
    simp only [Act.put, List.setIfInBounds_toArray, List.set_cons_zero, List.set_cons_succ]
    refine chainH_take (v := ?_) (by simp only [List.getElem?_toArray, List.getElem?_cons_zero, List.getElem?_cons_succ]; rfl) (by rfl) (fun w hS => ?_) ?_
    rotate_left
    · go_simp <;> with_reducible rfl
    simp only [Act.put, List.setIfInBounds_toArray, List.set_cons_zero, List.set_cons_succ]
    refine chainH_take (v := ?_) (by simp only [List.getElem?_toArray, List.getElem?_cons_zero, List.getElem?_cons_succ]; rfl) (by rfl) (fun w hS => ?_) ?_
    rotate_left
    · go_simp <;> with_reducible rfl
    simp only [Act.put, List.setIfInBounds_toArray, List.set_cons_zero, List.set_cons_succ]
    refine chainH_take (v := ?_) (by simp only [List.getElem?_toArray, List.getElem?_cons_zero, List.getElem?_cons_succ]; rfl) (by rfl) (fun w hS => ?_) ?_
    rotate_left
    · obtain ⟨a0, a1, a2, a3, a4, a5, a6, -⟩ := cells7 (HP2.out.far hS HNP.out); go_simp <;> with_reducible rfl
    simp only [Act.put, List.setIfInBounds_toArray, List.set_cons_zero, List.set_cons_succ]
    refine chainH_take (v := ?_) (by simp only [List.getElem?_toArray, List.getElem?_cons_zero, List.getElem?_cons_succ]; rfl) (by rfl) (fun w hS => ?_) ?_
    rotate_left
    · obtain ⟨a0, a1, a2, a3, a4, a5, a6, -⟩ := cells7 (HP2.out.far hS HNP.out); go_simp <;> with_reducible rfl
    simp only [Act.put, List.setIfInBounds_toArray, List.set_cons_zero, List.set_cons_succ]
    refine chainH_alone (by simp only [List.getElem?_toArray, List.getElem?_cons_zero, List.getElem?_cons_succ]; rfl) ?_
    intro K hK
    go_wp2_with fail
    have hcut := cut_any g1 n k (k + d) w2.drew (by omega) hk2
    rw [ed, show k + d - k = d by omega] at hcut
    refine hcut.mono ?_
    rintro e j1 ⟨rfl, rfl⟩
    clear hcut
    have Oj1 : Only g1 w2 w2.drew := Only.of_below ((Below.refl _ _).drewN 1)
    go_wp2
    refine hK.out _ _ Oj1 ?_
    clear hK K
    refine chainH_alone (by simp only [List.getElem?_toArray, List.getElem?_cons_zero, List.getElem?_cons_succ]; rfl) ?_
    intro K hK
    go_wp2_with fail
    refine (rest_v r m x d f g b _).mono ?_
    rintro e j2 ⟨rfl, hb⟩
    have Oj2 : Only g1 w2 j2 := Oj1.trans (Only.of_below hb)
    have Wj2 := hide ((HG2.out.drewN 1).later (w' := j2) hb)
    have HJ2 := hide Oj2
    clear hb
    go_wp2
    refine hK.out _ _ Oj2 ?_
    clear hK K
    refine chainH_alone (by simp only [List.getElem?_toArray, List.getElem?_cons_zero, List.getElem?_cons_succ]; rfl) ?_
    intro K hK
    go_wp2
    have Oj3 : Only g1 w2 (j2.alloc (.cells #[.int .i32 r, .int .i32 m, .int .i32 x, .int .u8 (d : Int), .int .u8 (f : Int), .int .u8 (g : Int), .int .u8 (b : Int), .int .i32 0, .int .i32 0, .int .i32 0, .int .u8 0, .int .u8 (f : Int), .int .u8 (g : Int), .int .u8 (b : Int)] 73)) := HJ2.out.trans (Only.of_below ((Below.refl _ _).alloc (Nat.le_refl _) _))
    refine hK.out _ _ Oj3 ?_
    clear hK K
    obtain ⟨j3, hj3⟩ : ∃ j3, j2.alloc (.cells #[.int .i32 r, .int .i32 m, .int .i32 x, .int .u8 (d : Int), .int .u8 (f : Int), .int .u8 (g : Int), .int .u8 (b : Int), .int .i32 0, .int .i32 0, .int .i32 0, .int .u8 0, .int .u8 (f : Int), .int .u8 (g : Int), .int .u8 (b : Int)] 73) = j3 := ⟨_, rfl⟩
    have Cj3 : Hid (Cels .i32 j3 (some ⟨j2.heap.size, 0, none⟩) [⟨r, m, x, d, ⟨f, g, b⟩⟩, restC ⟨r, m, x, d, ⟨f, g, b⟩⟩]) := by unfold Hid; rw [← hj3]; exact cels_two j2 73 ⟨r, m, x, d, ⟨f, g, b⟩⟩ (restC ⟨r, m, x, d, ⟨f, g, b⟩⟩)
    have Wj3 : Hid (Whole j3 g1 73 (flatC .i32 cs)) := by unfold Hid; rw [← hj3]; exact Wj2.out.alloc _
    rw [hj3]
    rw [hj3] at Oj3
    have HJ3 := hide Oj3
    clear hj3 Oj3
    obtain ⟨j4, hrun, hw4, ho4⟩ := run_copyL elemL j3 3 g1 k 73 cs [⟨r, m, x, d, ⟨f, g, b⟩⟩, restC ⟨r, m, x, d, ⟨f, g, b⟩⟩] (some ⟨j2.heap.size, 0, none⟩) d d 2 2 Wj3.out Cj3.out rfl (by rw [HN.out]; omega)
    have Oj4 : Only g1 w2 j4 := HJ3.out.trans ho4
    have HJ4 := hide Oj4
    have Wj4 : Hid (Whole j4 g1 73 (flatC .i32 (putTab cs k ⟨r, m, x, d, ⟨f, g, b⟩⟩))) := by unfold Hid; rw [← HL.out]; exact hw4
    clear hw4 ho4
    refine chainH_alone (by simp only [List.getElem?_toArray, List.getElem?_cons_zero, List.getElem?_cons_succ]; rfl) ?_
    intro K hK
    go_wp2
    refine hK.out _ _ HJ4.out ?_
    clear hK K
    refine chainH_nil ?_
    clear Oj1 Oj2 Oj4 hrun
    go_wp2_with fail
    refine (mendown_any g1 n (putTab cs k ⟨r, m, x, d, ⟨f, g, b⟩⟩) j4 Wj4.out (by rw [putTab_len, HN.out]) hl).mono ?_
    rintro e j5 ⟨rfl, hw, ho⟩
    have HW5 := hide hw
    have HO5 := hide ho
    clear hw ho
    go_wp2
    go_ret2
    exact ⟨g1, by rw [HK.out, put_len, HN.out]; rfl, HG.out, by rw [put_yes HK.out]; exact HW5.out, (HJ4.out.trans HO5.out).below HB2.out HB2.out.size HG.out⟩
end Go.Proofs.YtkijclgbpbhglaaGreatDoor

namespace Go.Proofs.YtkijclgbpbhglaaGreatDoor
set_option maxRecDepth 100000
open Go.ChangeShapes Go.WideShapes Go.ChangeAt Go.RowKit
set_option linter.unusedVariables false

/-- The call gave this line, wherever it lies, and told whether; all that was there is left. -/
def LineV2 (k : IntKind) (cs : List Cel) (ok : Bool) (w : World) (e : Ending) (w' : World) : Prop := ∃ A c, e = .returned (.tuple #[.slice A cs.length c, .bool ok]) ∧ Cels k w' A cs ∧ Below w.heap.size w w'
theorem flat_set (k : IntKind) (cs : List Cel) (j : Nat) (c : Cel) (h : j < cs.length) : (flatC k cs).take (j * 7) ++ ([.int k c.r, .int k c.m, .int k c.n, .int .u8 (c.w : Int), .int .u8 (c.p.f : Int), .int .u8 (c.p.g : Int), .int .u8 (c.p.b : Int)] ++ (flatC k cs).drop (j * 7 + 7)) = flatC k (cs.set j c) := by
  rw [set_lay cs j c h, flat_lay]
  rfl
/-- A row of the call's own, one cell stored. -/
theorem OwnC.put {e : TypeId} {k : IntKind} {B : Nat} {w wr : World} {g n cap : Nat} {cs : List Cel} (h : OwnC e k B w wr (.slice (some ⟨g, 0, none⟩) n cap) cs) (hn : cs.length = n) (o j : Nat) (ho : o = j * 7) (hj : j < n) (c : Cel) :
    OwnC e k B w (((((((wr.setCell ⟨g, o, none⟩ (.int k c.r)).setCell ⟨g, o + 1, none⟩ (.int k c.m)).setCell ⟨g, o + 2, none⟩ (.int k c.n)).setCell ⟨g, o + 3, none⟩ (.int .u8 (c.w : Int))).setCell ⟨g, o + 4, none⟩ (.int .u8 (c.p.f : Int))).setCell ⟨g, o + 5, none⟩ (.int .u8 (c.p.g : Int))).setCell ⟨g, o + 6, none⟩ (.int .u8 (c.p.b : Int))) (.slice (some ⟨g, 0, none⟩) n cap) (cs.set j c) := by
  subst hn
  have hB : B ≤ g := (h.own.lt g rfl).1
  have s0 := (h.own.stored o (.int k c.r)).1
  have s1 := (s0.stored (o + 1) (.int k c.m)).1
  have s2 := (s1.stored (o + 2) (.int k c.n)).1
  have s3 := (s2.stored (o + 3) (.int .u8 (c.w : Int))).1
  have s4 := (s3.stored (o + 4) (.int .u8 (c.p.f : Int))).1
  have s5 := (s4.stored (o + 5) (.int .u8 (c.p.g : Int))).1
  have s6 := (s5.stored (o + 6) (.int .u8 (c.p.b : Int))).1
  clear s0 s1 s2 s3 s4 s5
  rw [set7 _ o (by rw [flatC_len]; omega)] at s6
  subst ho
  rw [flat_set k cs j c hj] at s6
  refine ⟨?_, (only_cell (j * 7) _ _ _ _ _ _ _).below h.bel h.le hB, ?_⟩
  · rw [List.length_set]; exact s6
  · have := h.le; simp only [World.size_setCell]; exact this
end Go.Proofs.YtkijclgbpbhglaaGreatDoor

namespace Go.Proofs.YtkijclgbpbhglaaGreatDoor
set_option maxRecDepth 100000
open Go.ChangeShapes Go.WideShapes Go.ChangeAt Go.RowKit
set_option linter.unusedVariables false

theorem neqCell (W : World) (r m n w f g b r' m' n' w' f' g' b' : Int) :
    (binOp .neq 73 (.agg #[.int .i32 r, .int .i32 m, .int .i32 n, .int .u8 w, .int .u8 f, .int .u8 g, .int .u8 b]) (.agg #[.int .i32 r', .int .i32 m', .int .i32 n', .int .u8 w', .int .u8 f', .int .u8 g', .int .u8 b'])).run Tryz.prog W = .ok (.bool (!(eqC r m n w f g b r' m' n' w' f' g' b'))) W := by
  rw [run_neq_struct, equalCell 9997]; rfl
theorem eqC_cel (r m x : Int) (d f y b : Nat) (r' m' x' : Int) (d' f' y' b' : Nat) : eqC r m x (d : Int) (f : Int) (y : Int) (b : Int) r' m' x' (d' : Int) (f' : Int) (y' : Int) (b' : Int) = decide ((⟨r, m, x, d, ⟨f, y, b⟩⟩ : Cel) = ⟨r', m', x', d', ⟨f', y', b'⟩⟩) := by
  rw [eqC_iff, Bool.eq_iff_iff, decide_eq_true_iff, decide_eq_true_iff]
  simp only [Cel.mk.injEq, Pn.mk.injEq, Int.ofNat_inj]
theorem take_cel (a b : List Cel) (k : Nat) (ha : k < a.length) (hb : k < b.length) (h : a.take k = b.take k) (e : cAt a k = cAt b k) : a.take (k + 1) = b.take (k + 1) := by
  rw [List.take_succ_eq_append_getElem ha, List.take_succ_eq_append_getElem hb, h]
  have h1 : a[k] = cAt a k := Option.some.inj ((List.getElem?_eq_getElem ha).symm.trans (get_cAt a k ha))
  have h2 : b[k] = cAt b k := Option.some.inj ((List.getElem?_eq_getElem hb).symm.trans (get_cAt b k hb))
  rw [h1, h2, e]
set_option maxRecDepth 100000 in
set_option maxHeartbeats 2000000 in
theorem equal_any (A C : Option Addr) (n c m d : Nat) (xs ys : List Cel) (w : World) (ha : Cels .i32 w A xs) (hb : Cels .i32 w C ys) (hn : xs.length = n) (hm : ys.length = m) (hl : n ≤ 1000000) :
    Calls Tryz.prog 114 #[.slice A n c, .slice C m d] w (Said (decide (xs = ys)) w) := by
  have nC := @neqCell
  have HN := hide hn
  have HM := hide hm
  have HA := hide ha
  have HC := hide hb
  by_cases hnm : n = m
  · have en : ((n : Int) != (m : Int)) = false := by simp; omega
    clear hn hm ha hb
    go_enter Tryz.func114, Tryz.ntmps114
    go_wp2
    go_loopw [5, 13] (fun _ i wr => ∃ k : Nat, k ≤ n ∧ i = .int .i64 k ∧ Hid (xs.take k = ys.take k) ∧ Below w.heap.size w wr) (fun _ i _ => n - (intOf i).toNat)
    case atStart => exact ⟨0, Nat.zero_le _, rfl, (by unfold Hid; simp), Below.refl _ _⟩
    case round =>
      obtain ⟨k, hk, rfl, ht, hbel⟩ := hrel
      have HB := hide hbel
      clear hbel
      by_cases hlt : k < n
      · obtain ⟨b1, o1, rfl, l1, -⟩ := HA.out.at (i := k) (by rw [HN.out]; exact hlt)
        obtain ⟨b2, o2, rfl, l2, -⟩ := HC.out.at (i := k) (by rw [HM.out]; omega)
        by_cases he : cAt xs k = cAt ys k
        · have HT := hide (take_cel xs ys k (by rw [HN.out]; exact hlt) (by rw [HM.out]; omega) ht.out he)
          obtain ⟨⟨r, x, y, z, ⟨f, g, b⟩⟩, hc⟩ : ∃ q, cAt xs k = q := ⟨_, rfl⟩
          have hc2 := he.symm.trans hc
          obtain ⟨u0, u1, u2, u3, u4, u5, u6, -⟩ := (HA.out.below HB.out).sevenC k (by rw [HN.out]; exact hlt) hc
          obtain ⟨v0, v1, v2, v3, v4, v5, v6, -⟩ := (HC.out.below HB.out).sevenC k (by rw [HM.out]; omega) hc2
          have hq := eqC_self r x y (z : Int) (f : Int) (g : Int) (b : Int)
          clear hc hc2 he ht
          go_wp2
          go_quiet (fail)
          go_wp2
          go_roundw
          case rel => exact ⟨k + 1, by omega, by go_num, HT, HB.out.drewN _⟩
          case measure => simp [intOf]; omega
        · have HF : Hid (decide (xs = ys) = false) := by unfold Hid; exact decide_eq_false (fun q => he (by rw [q]))
          obtain ⟨⟨r, x, y, z, ⟨f, g, b⟩⟩, hc⟩ : ∃ q, cAt xs k = q := ⟨_, rfl⟩
          obtain ⟨⟨r', x', y', z', ⟨f', g', b'⟩⟩, hc2⟩ : ∃ q, cAt ys k = q := ⟨_, rfl⟩
          rw [hc, hc2] at he
          obtain ⟨u0, u1, u2, u3, u4, u5, u6, -⟩ := (HA.out.below HB.out).sevenC k (by rw [HN.out]; exact hlt) hc
          obtain ⟨v0, v1, v2, v3, v4, v5, v6, -⟩ := (HC.out.below HB.out).sevenC k (by rw [HM.out]; omega) hc2
          have hq : eqC r x y (z : Int) (f : Int) (g : Int) (b : Int) r' x' y' (z' : Int) (f' : Int) (g' : Int) (b' : Int) = false := by rw [eqC_cel]; exact decide_eq_false he
          clear hc hc2 he ht
          go_wp2
          go_quiet (fail)
          go_wp2
          go_ret
          exact ⟨ret_bool HF.out.symm, HB.out.drewN _⟩
      · have HF : Hid (decide (xs = ys) = true) := by
          unfold Hid
          refine decide_eq_true ?_
          have q := ht.out
          rwa [List.take_of_length_le (by rw [HN.out]; omega), List.take_of_length_le (by rw [HM.out]; omega)] at q
        clear ht
        go_wp2
        go_ret
        exact ⟨ret_bool HF.out.symm, HB.out⟩
  · have en : ((n : Int) != (m : Int)) = true := by simp; omega
    have HF : Hid (decide (xs = ys) = false) := by unfold Hid; exact decide_eq_false (fun q => hnm (by rw [← hn, ← hm, q]))
    clear hn hm ha hb hnm
    go_enter Tryz.func114, Tryz.ntmps114
    go_wp2
    go_ret
    exact ⟨ret_bool HF.out.symm, Below.refl _ _⟩
set_option maxRecDepth 100000 in
theorem same6_any (A C : Option Addr) (n c m d : Nat) (xs ys : List Cel) (w : World) (ha : Cels .i32 w A xs) (hb : Cels .i32 w C ys) (hn : xs.length = n) (hm : ys.length = m) (hl : n ≤ 1000000) :
    Calls Tryz.prog 61 #[.slice A n c, .slice C m d] w (Said (decide (xs = ys)) w) := by
  have HN := hide hn
  have HM := hide hm
  have HA := hide ha
  have HC := hide hb
  clear hn hm ha hb
  go_enter Tryz.func61, Tryz.ntmps61
  go_wp2_with fail
  refine (equal_any A C n c m d xs ys w HA.out HC.out HN.out HM.out hl).mono ?_
  rintro e w1 ⟨rfl, hb⟩
  go_wp2
  go_ret
  exact ⟨rfl, hb⟩
end Go.Proofs.YtkijclgbpbhglaaGreatDoor

namespace Go.Proofs.YtkijclgbpbhglaaGreatDoor
set_option maxRecDepth 100000
open Go.ChangeShapes Go.WideShapes Go.ChangeAt Go.RowKit
set_option linter.unusedVariables false

/-! ### numbers that fit -/
theorem celB_blank (p : Pn) : CelB (blankC p) := ⟨by show R32 32; unfold R32; omega, r32_0, r32_0, by show 1 < 256; omega⟩
theorem celB_rest (c : Cel) : CelB (restC c) := ⟨r32_0, r32_0, r32_0, by show 0 < 256; omega⟩
theorem LB_tab {n : Nat} {f : Nat → Cel} (h : ∀ i, i < n → CelB (f i)) : LB (tab n f) := by
  intro i hi
  rw [tab_len] at hi
  rw [tab_cAt n f i hi]
  exact h i hi
theorem LB_mend {cs : List Cel} (h : LB cs) : LB (mendC cs) := by
  refine LB_tab fun i hi => ?_
  unfold mendAt
  split
  · exact celB_blank _
  · exact h i hi
theorem LB_new (n : Int) : LB (newC n) := LB_tab fun i hi => celB_blank _
theorem LB_put {cs : List Cel} {a : Int} {c : Cel} (h : LB cs) (hc : CelB c) : LB (putC cs a c) := by
  unfold putC
  split
  · refine LB_mend (LB_tab fun i hi => ?_)
    split
    · exact hc
    · split
      · exact celB_rest _
      · exact h i hi
  · exact h
theorem LB_erase {cs : List Cel} {x y : Int} {p : Pn} (h : LB cs) : LB (eraseC cs x y p) := by
  refine LB_mend (LB_tab fun i hi => ?_)
  split
  · exact celB_blank _
  · exact h i hi
theorem LB_fit {cs : List Cel} {x : Int} (h : LB cs) : LB (fitC cs x) := by
  refine LB_mend (LB_tab fun i hi => ?_)
  split
  · rename_i q; exact h i q
  · exact celB_blank _
theorem celB_mark {c : Cel} {r : Int} (h : CelB c) (hr : R32 r) : CelB (markC c r).1 := by
  obtain ⟨r0, m0, n0, d0, p0⟩ := c
  obtain ⟨h1, h2, h3, h4⟩ := h
  obtain ⟨⟨⟨r1, m1, n1, d1, p1⟩, ok⟩, hm⟩ : ∃ q, markC ⟨r0, m0, n0, d0, p0⟩ r = q := ⟨_, rfl⟩
  rw [hm]
  exact mark_r32 hr h1 h2 h3 h4 hm
theorem LB_mark {cs : List Cel} {a r : Int} (h : LB cs) (hr : R32 r) : LB (lmarkC cs a r).1 := by
  unfold lmarkC
  split
  · rename_i hin
    rw [set_tab]
    refine LB_tab fun i hi => ?_
    split
    · refine celB_mark (h _ ?_) hr
      unfold mkAt; split <;> omega
    · exact h i hi
  · exact h
theorem lmark_len (cs : List Cel) (a r : Int) : (lmarkC cs a r).1.length = cs.length := by
  unfold lmarkC; split
  · simp
  · rfl

/-! ### the contracts -/
/-- The call gave this line of n cells, wherever it lies; all that was there is left. -/
def LineN (k : IntKind) (n : Nat) (X : List Cel) (w : World) (e : Ending) (w' : World) : Prop := ∃ A c, e = .returned (.slice A n c) ∧ Cels k w' A X ∧ Below w.heap.size w w'
/-- .. and told whether. -/
def LineN2 (k : IntKind) (n : Nat) (X : List Cel) (ok : Bool) (w : World) (e : Ending) (w' : World) : Prop := ∃ A c, e = .returned (.tuple #[.slice A n c, .bool ok]) ∧ Cels k w' A X ∧ Below w.heap.size w w'
theorem Lined.line {cs : List Cel} {n : Nat} {w : World} {e : Ending} {w' : World} (h : Lined cs w e w') (hn : cs.length = n) : LineN .i32 n cs w e w' := by
  obtain ⟨g, rfl, -, hw, hb⟩ := h
  subst hn
  exact ⟨_, _, rfl, hw.cels, hb⟩
theorem Lined2.line {cs : List Cel} {ok : Bool} {n : Nat} {w : World} {e : Ending} {w' : World} (h : Lined2 cs ok w e w') (hn : cs.length = n) : LineN2 .i32 n cs ok w e w' := by
  obtain ⟨g, rfl, -, hw, hb⟩ := h
  subst hn
  exact ⟨_, _, rfl, hw.cels, hb⟩
theorem LineV2.line {k : IntKind} {cs : List Cel} {ok : Bool} {n : Nat} {w : World} {e : Ending} {w' : World} (h : LineV2 k cs ok w e w') (hn : cs.length = n) : LineN2 k n cs ok w e w' := by
  obtain ⟨A, c, rfl, hc, hb⟩ := h
  subst hn
  exact ⟨_, _, rfl, hc, hb⟩
theorem MadeC.line {t : TypeId} {k : IntKind} {cs : List Cel} {n : Nat} {w : World} {e : Ending} {w' : World} (h : MadeC t k w cs e w') (hn : cs.length = n) : LineN k n cs w e w' := by
  obtain ⟨v, rfl, ho⟩ := h
  obtain ⟨A, c, rfl, hc, -⟩ := ho.form
  subst hn
  exact ⟨_, _, rfl, hc, ho.bel⟩
section
variable {A C : Option Addr} {n c m d : Nat} {cs xs ys : List Cel} {w : World}
theorem put_v (at_ : Int) (r q x : Int) (d' f g b : Nat) (ha : -9223372036854775808 ≤ at_ ∧ at_ < 9223372036854775808) {X : List Cel} {ok : Bool} (hX : putC cs at_ ⟨r, q, x, d', ⟨f, g, b⟩⟩ = X) (hok : putOk cs at_ ⟨r, q, x, d', ⟨f, g, b⟩⟩ = ok) (h : Cels .i32 w A cs) (hn : cs.length = n) (hl : n ≤ 1000000) (hd : d' < 256) (hS : Spans w) :
    Calls Tryz.prog 197 #[.slice A n c, .int .i64 at_, .agg #[.int .i32 r, .int .i32 q, .int .i32 x, .int .u8 (d' : Int), .int .u8 (f : Int), .int .u8 (g : Int), .int .u8 (b : Int)]] w (LineN2 .i32 n X ok w) := by
  subst hX hok
  exact (put_any A n c at_ r q x d' f g b hd cs w h hn hl hS ha).mono fun e w' q => q.line (by rw [put_len, hn])
theorem lmark_v (at_ x : Int) {X : List Cel} {ok : Bool} (hX : lmarkC cs at_ x = (X, ok)) (h : Cels .i32 w A cs) (hn : cs.length = n) (hl : n ≤ 1000000) (hS : Spans w) :
    Calls Tryz.prog 195 #[.slice A n c, .int .i64 at_, .int .i32 x] w (LineN2 .i32 n X ok w) := by
  refine (lmark_any A n c at_ x cs w h hn hl hS).mono fun e w' q => ?_
  have := q.line (n := n) (by rw [lmark_len, hn])
  rwa [hX] at this
theorem erase_v (x y : Int) (f g b : Nat) {X : List Cel} (hX : eraseC cs x y ⟨f, g, b⟩ = X) (h : Cels .i32 w A cs) (hn : cs.length = n) (hl : n ≤ 1000000) : Calls Tryz.prog 200 #[.slice A n c, .int .i64 x, .int .i64 y, .agg #[.int .u8 (f : Int), .int .u8 (g : Int), .int .u8 (b : Int)]] w (LineN .i32 n X w) := by
  subst hX
  exact (erase_any A n c x y f g b cs w h hn hl).mono fun e w' q => q.line (by rw [erase_len, hn])
theorem new_v (x : Int) {N : Nat} {X : List Cel} (hX : newC x = X) (hN : lenN x = N) (w : World) : Calls Tryz.prog 66 #[.int .i64 x] w (LineN .i32 N X w) := by
  subst hX
  exact (new_any x w).mono fun e w' q => q.line (by rw [new_len, hN])
end
end Go.Proofs.YtkijclgbpbhglaaGreatDoor

namespace Go.Proofs.YtkijclgbpbhglaaGreatDoor
set_option maxRecDepth 100000
set_option linter.unusedVariables false

theorem alone_congr {l l' : List Cel} (h : ∀ i, wAt l i = wAt l' i) (i : Nat) : aloneC l i = aloneC l' i := by unfold aloneC; rw [h i, h (i + 1), h (i - 1)]
theorem alone_1 {l : List Cel} {i : Nat} (h : wAt l i = 1) : aloneC l i = false := by unfold aloneC; rw [if_neg (by omega), if_neg (by omega)]
theorem alone_of2 {l : List Cel} {i : Nat} (h : wAt l i = 2) (h1 : wAt l (i + 1) = 0) : aloneC l i = false := by unfold aloneC; rw [if_pos h]; simp [h1]
theorem alone_of0 {l : List Cel} {i : Nat} (h : wAt l i = 0) (h0 : i ≠ 0) (h1 : wAt l (i - 1) = 2) : aloneC l i = false := by unfold aloneC; rw [if_neg (by omega), if_pos h]; simp [h0, h1]
theorem mend_wAt (l : List Cel) (i : Nat) (hi : i < l.length) : wAt (mendC l) i = if aloneC l i = true then 1 else wAt l i := by
  rw [wAt_in _ _ (by rw [mend_len]; exact hi), mend_cAt l i hi, wAt_in l i hi]
  unfold mendAt
  split <;> rfl
theorem mend_w2 {l : List Cel} {i : Nat} (h : wAt (mendC l) i = 2) : wAt l i = 2 ∧ aloneC l i = false := by
  have hi : i < l.length := by have := wAt_lt (l := mendC l) (i := i) (by omega); rwa [mend_len] at this
  rw [mend_wAt l i hi] at h
  cases q : aloneC l i
  · rw [q] at h; simp at h; exact ⟨h, rfl⟩
  · rw [q] at h; simp at h
theorem mend_w0 {l : List Cel} {i : Nat} (h : wAt (mendC l) i = 0) : wAt l i = 0 ∧ aloneC l i = false := by
  have hi : i < l.length := by have := wAt_lt (l := mendC l) (i := i) (by omega); rwa [mend_len] at this
  rw [mend_wAt l i hi] at h
  cases q : aloneC l i
  · rw [q] at h; simp at h; exact ⟨h, rfl⟩
  · rw [q] at h; simp at h
/-- What is mended has no half alone. -/
theorem mend_none (l : List Cel) (i : Nat) : aloneC (mendC l) i = false := by
  by_cases h2 : wAt (mendC l) i = 2
  · obtain ⟨h3, h4⟩ := mend_w2 h2
    have h5 := alone_2 h3 h4
    have hi1 : i + 1 < l.length := wAt_lt (by omega)
    refine alone_of2 h2 ?_
    rw [mend_wAt l _ hi1, alone_of0 h5 (by omega) h3]
    simp [h5]
  · by_cases h0 : wAt (mendC l) i = 0
    · obtain ⟨h3, h4⟩ := mend_w0 h0
      obtain ⟨h5, h6⟩ := alone_0 h3 h4
      have hi1 : i - 1 < l.length := wAt_lt (by omega)
      refine alone_of0 h0 h5 ?_
      rw [mend_wAt l _ hi1, alone_of2 h6 (by rw [show i - 1 + 1 = i by omega]; exact h3)]
      simp [h6]
    · unfold aloneC; rw [if_neg h2, if_neg h0]
theorem mend_stays {l : List Cel} (h : ∀ i, i < l.length → aloneC l i = false) : mendC l = l := by
  unfold mendC
  conv => rhs; rw [← tab_self l]
  exact tab_eq fun i hi => mendAt_no l i (h i hi)
/-- All cells right, halves beside each other of one pen. -/
def fine (l : List Cel) : Prop := ∀ i, i < l.length → rightC (cAt l i) = true ∧ (wAt l i = 0 → i ≠ 0 → wAt l (i - 1) = 2 → (cAt l i).p = (cAt l (i - 1)).p)
theorem right_of_fine {l : List Cel} (h : fine l) : rightL (mendC l) = true := by
  rw [rightL_iff]
  intro i hi
  rw [mend_len] at hi
  rw [okAt_iff]
  refine ⟨?_, mend_none l i, fun h0 => ?_⟩
  · rw [mend_cAt l i hi]
    unfold mendAt
    split
    · exact right_blank (right_pen (h i hi).1)
    · exact (h i hi).1
  · obtain ⟨h3, h4⟩ := mend_w0 h0
    obtain ⟨h5, h6⟩ := alone_0 h3 h4
    have h7 := alone_of2 h6 (by rw [show i - 1 + 1 = i by omega]; exact h3)
    rw [mend_cAt l i hi, mend_cAt l (i - 1) (by omega), mendAt_no l i h4, mendAt_no l (i - 1) h7]
    exact (h i hi).2 h3 h5 h6
theorem fine_of_right {l : List Cel} (h : rightL l = true) {i : Nat} (hi : i < l.length) : rightC (cAt l i) = true ∧ (wAt l i = 0 → (cAt l i).p = (cAt l (i - 1)).p) := by
  obtain ⟨h1, _, h3⟩ := (okAt_iff l i).1 ((rightL_iff l).1 h i hi)
  exact ⟨h1, h3⟩
theorem tab_wAt (n : Nat) (f : Nat → Cel) (i : Nat) (h : i < n) : wAt (tab n f) i = (f i).w := by rw [wAt_in _ _ (by rw [tab_len]; exact h), tab_cAt n f i h]
theorem right_put {l : List Cel} {a : Int} {c : Cel} (h : rightL l = true) : rightL (putC l a c) = true := by
  unfold putC
  split
  · rename_i hok
    unfold putOk at hok
    rw [decide_eq_true_iff] at hok
    obtain ⟨hc, hw, ha, hl⟩ := hok
    have hw2 : c.w = 1 ∨ c.w = 2 := by rcases right_w hc with q | q | q; exact absurd q hw; exact .inl q; exact .inr q
    refine right_of_fine ?_
    unfold putTab
    intro i hi
    rw [tab_len] at hi
    rw [tab_cAt _ _ _ hi, tab_wAt _ _ _ hi]
    refine ⟨?_, fun h0 hi0 h2 => ?_⟩
    · split
      · exact hc
      · split
        · exact right_rest hc
        · exact (fine_of_right h hi).1
    · have hi1 : i - 1 < l.length := by omega
      rw [tab_wAt _ _ _ hi1] at h2
      rw [tab_cAt _ _ _ hi1]
      generalize a.toNat = k at *
      by_cases e1 : i = k
      · rw [if_pos e1] at h0; exact absurd h0 hw
      · rw [if_neg e1] at h0 ⊢
        by_cases e2 : i = k + 1 ∧ c.w = 2
        · rw [if_pos e2, if_pos (by omega)]; rfl
        · rw [if_neg e2] at h0 ⊢
          by_cases e3 : i - 1 = k
          · rw [if_pos e3] at h2; omega
          · rw [if_neg e3] at h2 ⊢
            by_cases e4 : i - 1 = k + 1 ∧ c.w = 2
            · rw [if_pos e4] at h2; cases h2
            · rw [if_neg e4]
              refine (fine_of_right h hi).2 ?_
              rw [wAt_in l i hi]; exact h0
  · exact h
theorem right_erase {l : List Cel} {x y : Int} {p : Pn} (h : rightL l = true) (hp : rightN p = true) : rightL (eraseC l x y p) = true := by
  refine right_of_fine ?_
  unfold eraseTab
  intro i hi
  rw [tab_len] at hi
  rw [tab_cAt _ _ _ hi, tab_wAt _ _ _ hi]
  refine ⟨?_, fun h0 hi0 h2 => ?_⟩
  · split
    · exact right_blank hp
    · exact (fine_of_right h hi).1
  · have hi1 : i - 1 < l.length := by omega
    rw [tab_wAt _ _ _ hi1] at h2
    rw [tab_cAt _ _ _ hi1]
    split at h0
    · cases h0
    · rename_i e1
      split at h2
      · cases h2
      · rename_i e2
        rw [if_neg e1, if_neg e2]
        refine (fine_of_right h hi).2 ?_
        rw [wAt_in l i hi]; exact h0
theorem right_fit {l : List Cel} {x : Int} (h : rightL l = true) : rightL (fitC l x) = true := by
  refine right_of_fine ?_
  unfold fitTab
  intro i hi
  rw [tab_len] at hi
  rw [tab_cAt _ _ _ hi, tab_wAt _ _ _ hi]
  refine ⟨?_, fun h0 hi0 h2 => ?_⟩
  · split
    · rename_i q; exact (fine_of_right h q).1
    · exact right_blank (by decide)
  · have hi1 : i - 1 < lenN x := by omega
    rw [tab_wAt _ _ _ hi1] at h2
    rw [tab_cAt _ _ _ hi1]
    split at h0
    · rename_i e1
      rw [if_pos e1, if_pos (by omega)]
      refine (fine_of_right h e1).2 ?_
      rw [wAt_in l i e1]; exact h0
    · cases h0
theorem mark_same (c : Cel) (r : Int) : (markC c r).1.w = c.w ∧ (markC c r).1.p = c.p := by
  unfold markC
  split
  · split
    · exact ⟨rfl, rfl⟩
    · split
      · exact ⟨rfl, rfl⟩
      · exact ⟨rfl, rfl⟩
  · exact ⟨rfl, rfl⟩
theorem right_alike {l l' : List Cel} (hl : l'.length = l.length) (h : ∀ i, i < l.length → (cAt l' i).w = (cAt l i).w ∧ (cAt l' i).p = (cAt l i).p ∧ (rightC (cAt l i) = true → rightC (cAt l' i) = true)) (hr : rightL l = true) : rightL l' = true := by
  have hw : ∀ i, wAt l' i = wAt l i := by
    intro i
    by_cases hi : i < l.length
    · rw [wAt_in l' i (by omega), wAt_in l i hi]; exact (h i hi).1
    · rw [wAt_out l' i (by omega), wAt_out l i (by omega)]
  rw [rightL_iff]
  intro i hi
  rw [hl] at hi
  obtain ⟨h1, h2, h3⟩ := (okAt_iff l i).1 ((rightL_iff l).1 hr i hi)
  rw [okAt_iff]
  refine ⟨(h i hi).2.2 h1, by rw [alone_congr hw]; exact h2, fun h0 => ?_⟩
  rw [hw] at h0
  obtain ⟨h5, h6⟩ := alone_0 h0 h2
  rw [(h i hi).2.1, (h (i - 1) (by omega)).2.1]
  exact h3 h0
theorem right_lmark {l : List Cel} {a r : Int} (h : rightL l = true) : rightL (lmarkC l a r).1 = true := by
  unfold lmarkC
  split
  · simp only
    refine right_alike (by simp) (fun i hi => ?_) h
    rw [set_tab, tab_cAt _ _ _ hi]
    split
    · rename_i e
      rw [e]
      exact ⟨(mark_same _ _).1, (mark_same _ _).2, right_mark⟩
    · exact ⟨rfl, rfl, fun q => q⟩
  · exact h

/-! ### twice -/
end Go.Proofs.YtkijclgbpbhglaaGreatDoor

namespace Go.Proofs.YtkijclgbpbhglaaGreatDoor
set_option maxRecDepth 100000
set_option linter.unusedVariables false

/-- A grid: its lines, the cursor's row and column. -/
structure Gd where
  ls : List (List Cel)
  row : Nat
  col : Nat

/-- The line of a row. -/
def lAt (ls : List (List Cel)) (i : Nat) : List Cel := ls.getD i []
/-- n lines, by a rule. -/
def gtab (n : Nat) (f : Nat → List Cel) : List (List Cel) := (List.range n).map f
theorem gtab_len (n : Nat) (f : Nat → List Cel) : (gtab n f).length = n := by simp [gtab]
theorem gtab_get (n : Nat) (f : Nat → List Cel) (i : Nat) (h : i < n) : (gtab n f)[i]? = some (f i) := by simp [gtab, h]
theorem gtab_no (n : Nat) (f : Nat → List Cel) (i : Nat) (h : n ≤ i) : (gtab n f)[i]? = none := by simp [gtab, h]
theorem gtab_lAt (n : Nat) (f : Nat → List Cel) (i : Nat) (h : i < n) : lAt (gtab n f) i = f i := by
  unfold lAt; rw [List.getD_eq_getElem?_getD, gtab_get n f i h]; rfl
theorem get_lAt (l : List (List Cel)) (i : Nat) (h : i < l.length) : l[i]? = some (lAt l i) := by
  unfold lAt; rw [List.getD_eq_getElem?_getD, List.getElem?_eq_getElem h]; rfl
theorem gtab_self (l : List (List Cel)) : gtab l.length (lAt l) = l := by
  apply List.ext_getElem?
  intro i
  by_cases h : i < l.length
  · rw [gtab_get _ _ _ h, get_lAt l i h]
  · rw [gtab_no _ _ _ (by omega), List.getElem?_eq_none (by omega)]
theorem gtab_eq {n : Nat} {f g : Nat → List Cel} (h : ∀ i, i < n → f i = g i) : gtab n f = gtab n g := by
  apply List.ext_getElem?
  intro i
  by_cases hi : i < n
  · rw [gtab_get _ _ _ hi, gtab_get _ _ _ hi, h i hi]
  · rw [gtab_no _ _ _ (by omega), gtab_no _ _ _ (by omega)]
theorem gtab_is {l : List (List Cel)} {n : Nat} {f : Nat → List Cel} (hn : l.length = n) (h : ∀ i, i < n → lAt l i = f i) : l = gtab n f := by
  subst hn; rw [← gtab_eq h, gtab_self]
theorem set_lAt (l : List (List Cel)) (r i : Nat) (x : List Cel) (h : i < l.length) : lAt (l.set r x) i = if i = r then x else lAt l i := by
  unfold lAt
  rw [List.getD_eq_getElem?_getD, List.getElem?_set]
  by_cases q : r = i
  · subst q; simp [h]
  · rw [if_neg q, if_neg (Ne.symm q), List.getD_eq_getElem?_getD]
theorem set_same (l : List (List Cel)) (r : Nat) : l.set r (lAt l r) = l := by
  apply List.ext_getElem?
  intro i
  rw [List.getElem?_set]
  by_cases h : r = i
  · subst h
    by_cases q : r < l.length
    · rw [if_pos rfl, if_pos q, get_lAt l r q]
    · simp [q]
  · simp [h]
theorem set_gtab (l : List (List Cel)) (r : Nat) (x : List Cel) : l.set r x = gtab l.length (fun i => if i = r then x else lAt l i) := by
  refine gtab_is (by simp) fun i hi => set_lAt l r i x hi

/-- Is there such a row? -/
def hasG (n : Nat) (r : Int) : Prop := 0 ≤ r ∧ r < (n : Int)
instance (n : Nat) (r : Int) : Decidable (hasG n r) := by unfold hasG; infer_instance
/-- A number, brought to those below a count. -/
def nearN (x : Int) (n : Nat) : Nat := (min (max x 0) ((n : Int) - 1)).toNat
theorem nearN_lt (x : Int) (n : Nat) (h : 1 ≤ n) : nearN x n < n := by unfold nearN; omega
theorem nearN_self (k n : Nat) (h : k < n) : nearN (k : Int) n = k := by unfold nearN; omega
def sizeN (r c : Int) : Prop := (1 ≤ r ∧ r ≤ 512) ∧ (1 ≤ c ∧ c ≤ 512)
instance (r c : Int) : Decidable (sizeN r c) := by unfold sizeN; infer_instance

def newG (R C : Nat) : Gd := ⟨gtab R (fun _ => newC (C : Int)), 0, 0⟩
def putG (g : Gd) (r c : Int) (x : Cel) : Gd := if hasG g.ls.length r then { g with ls := g.ls.set r.toNat (putC (lAt g.ls r.toNat) c x) } else g
def putGOk (g : Gd) (r c : Int) (x : Cel) : Bool := decide (hasG g.ls.length r) && putOk (lAt g.ls r.toNat) c x
def markG (g : Gd) (r c m : Int) : Gd := if hasG g.ls.length r then { g with ls := g.ls.set r.toNat (lmarkC (lAt g.ls r.toNat) c m).1 } else g
def markGOk (g : Gd) (r c m : Int) : Bool := decide (hasG g.ls.length r) && (lmarkC (lAt g.ls r.toNat) c m).2
def eraseG (g : Gd) (r x y : Int) (p : Pn) : Gd := if hasG g.ls.length r ∧ rightN p = true then { g with ls := g.ls.set r.toNat (eraseC (lAt g.ls r.toNat) x y p) } else g
def layOk (g : Gd) (r : Int) (l : List Cel) (C : Nat) : Bool := decide (hasG g.ls.length r) && (decide (l.length = C) && rightL l)
def layG (g : Gd) (r : Int) (l : List Cel) (C : Nat) : Gd := if layOk g r l C = true then { g with ls := g.ls.set r.toNat l } else g
def moveG (g : Gd) (r c : Int) (C : Nat) : Gd := { g with row := nearN r g.ls.length, col := nearN c C }
def clampI (n : Int) (R : Nat) : Int := min (max n (-(R : Int))) (R : Int)
/-- The line that a row has behind a scroll by a number that is no more than there are. -/
def scrollAt (ls : List (List Cel)) (C : Nat) (n : Int) (p : Pn) (i : Nat) : List Cel :=
  if 0 ≤ (i : Int) + n ∧ (i : Int) + n < (ls.length : Int) then lAt ls ((i : Int) + n).toNat else tab C (fun _ => blankC p)
def scrollG (g : Gd) (C : Nat) (n : Int) (p : Pn) : Gd := if rightN p = true then { g with ls := gtab g.ls.length (scrollAt g.ls C (clampI n g.ls.length) p) } else g
def fitAtG (ls : List (List Cel)) (C : Nat) (i : Nat) : List Cel := if i < ls.length then fitC (lAt ls i) (C : Int) else newC (C : Int)
def fitG (g : Gd) (R C : Nat) : Gd := ⟨gtab R (fitAtG g.ls C), nearN (g.row : Int) R, nearN (g.col : Int) C⟩

/-- What a grid always is: R lines of C cells, all right, the cursor within. -/
structure GOk (g : Gd) (R C : Nat) : Prop where
  r1 : 1 ≤ R
  r2 : R ≤ 512
  c1 : 1 ≤ C
  c2 : C ≤ 512
  len : g.ls.length = R
  each : ∀ i, i < R → (lAt g.ls i).length = C ∧ rightL (lAt g.ls i) = true ∧ LB (lAt g.ls i)
  row : g.row < R
  col : g.col < C

theorem lenN_nat (C : Nat) (h : C ≤ 512) : lenN (C : Int) = C := by unfold lenN; omega
theorem newC_len (C : Nat) (h : C ≤ 512) : (newC (C : Int)).length = C := by rw [newC, tab_len, lenN_nat C h]
theorem newC_is (C : Nat) (h : C ≤ 512) : newC (C : Int) = tab C (fun _ => blankC zeroP) := by unfold newC; rw [lenN_nat C h]
theorem right_blanks (C : Nat) {p : Pn} (hp : rightN p = true) : rightL (tab C (fun _ => blankC p)) = true := by
  rw [rightL_iff]
  intro i hi
  rw [tab_len] at hi
  have hw : wAt (tab C fun _ => blankC p) i = 1 := tab_wAt _ _ _ hi
  rw [okAt_iff, tab_cAt _ _ _ hi]
  exact ⟨right_blank hp, alone_1 hw, fun h => by omega⟩
theorem right_new (C : Nat) (h : C ≤ 512) : rightL (newC (C : Int)) = true := by rw [newC_is C h]; exact right_blanks C (by decide)
theorem erase_all (l : List Cel) (C : Nat) (hl : l.length = C) (p : Pn) : eraseC l 0 (C : Int) p = tab C (fun _ => blankC p) := by
  have e : eraseTab l 0 (C : Int) p = tab C (fun _ => blankC p) := by
    unfold eraseTab
    rw [hl]
    exact tab_eq fun i hi => by rw [if_pos (by omega)]
  unfold eraseC
  rw [e]
  refine mend_stays fun i hi => ?_
  rw [tab_len] at hi
  exact alone_1 (tab_wAt _ _ _ hi)
theorem mark_no (c : Cel) (r : Int) (h : (markC c r).2 = false) : (markC c r).1 = c := by
  unfold markC at *
  split
  · rename_i q
    rw [if_pos q] at h
    split
    · rename_i q2; rw [if_pos q2] at h; cases h
    · rename_i q2
      rw [if_neg q2] at h
      split
      · rename_i q3; rw [if_pos q3] at h; cases h
      · rfl
  · rfl
theorem set_self (l : List Cel) (k : Nat) : l.set k (cAt l k) = l := by
  rw [set_tab]
  conv => rhs; rw [← tab_self l]
  refine tab_eq fun i hi => ?_
  split
  · rename_i h; rw [h]
  · rfl
theorem markL_no (l : List Cel) (a r : Int) (h : (lmarkC l a r).2 = false) : (lmarkC l a r).1 = l := by
  unfold lmarkC at *
  split
  · rename_i q
    rw [if_pos q] at h
    simp only at h ⊢
    rw [mark_no _ _ h, set_self]
  · rfl
theorem putL_no (l : List Cel) (a : Int) (c : Cel) (h : putOk l a c = false) : putC l a c = l := by unfold putC; rw [h]; rfl

section
variable {g : Gd} {R C : Nat}
theorem GOk.new (r1 : 1 ≤ R) (r2 : R ≤ 512) (c1 : 1 ≤ C) (c2 : C ≤ 512) : GOk (newG R C) R C :=
  ⟨r1, r2, c1, c2, gtab_len _ _, fun i hi => by
    have e : lAt (newG R C).ls i = newC (C : Int) := gtab_lAt _ _ _ hi
    rw [e]
    exact ⟨newC_len C c2, right_new C c2, LB_new _⟩, by show 0 < R; omega, by show 0 < C; omega⟩
theorem GOk.set (h : GOk g R C) (r : Nat) (l : List Cel) (hl : l.length = C ∧ rightL l = true ∧ LB l) : GOk { g with ls := g.ls.set r l } R C :=
  ⟨h.r1, h.r2, h.c1, h.c2, by rw [List.length_set]; exact h.len, fun i hi => by
    show (lAt (g.ls.set r l) i).length = C ∧ rightL (lAt (g.ls.set r l) i) = true ∧ LB (lAt (g.ls.set r l) i)
    rw [set_lAt _ _ _ _ (by rw [h.len]; exact hi)]
    split
    · exact hl
    · exact h.each i hi, h.row, h.col⟩
theorem GOk.at (h : GOk g R C) {r : Int} (hr : hasG g.ls.length r) : r.toNat < R := by have := h.len; unfold hasG at hr; omega
theorem GOk.put (h : GOk g R C) (r c : Int) (x : Cel) (hx : CelB x) : GOk (putG g r c x) R C := by
  unfold putG
  split
  · rename_i hr
    obtain ⟨h1, h2, h3⟩ := h.each _ (h.at hr)
    exact h.set _ _ ⟨by rw [put_len, h1], right_put h2, LB_put h3 hx⟩
  · exact h
theorem GOk.mark (h : GOk g R C) (r c m : Int) (hm : R32 m) : GOk (markG g r c m) R C := by
  unfold markG
  split
  · rename_i hr
    obtain ⟨h1, h2, h3⟩ := h.each _ (h.at hr)
    exact h.set _ _ ⟨by rw [lmark_len, h1], right_lmark h2, LB_mark h3 hm⟩
  · exact h
theorem GOk.erase (h : GOk g R C) (r x y : Int) (p : Pn) : GOk (eraseG g r x y p) R C := by
  unfold eraseG
  split
  · rename_i hr
    obtain ⟨h1, h2, h3⟩ := h.each _ (h.at hr.1)
    exact h.set _ _ ⟨by rw [erase_len, h1], right_erase h2 hr.2, LB_erase h3⟩
  · exact h
theorem GOk.lay (h : GOk g R C) (r : Int) (l : List Cel) (hl : LB l) : GOk (layG g r l C) R C := by
  unfold layG
  split
  · rename_i hr
    unfold layOk at hr
    simp only [Bool.and_eq_true, decide_eq_true_iff] at hr
    exact h.set _ _ ⟨hr.2.1, hr.2.2, hl⟩
  · exact h
theorem GOk.move (h : GOk g R C) (r c : Int) : GOk (moveG g r c C) R C :=
  ⟨h.r1, h.r2, h.c1, h.c2, h.len, h.each, by show nearN r g.ls.length < R; rw [h.len]; exact nearN_lt _ _ h.r1, nearN_lt _ _ h.c1⟩
theorem GOk.scroll (h : GOk g R C) (n : Int) (p : Pn) : GOk (scrollG g C n p) R C := by
  unfold scrollG
  split
  · rename_i hp
    refine ⟨h.r1, h.r2, h.c1, h.c2, by rw [gtab_len]; exact h.len, fun i hi => ?_, h.row, h.col⟩
    have e : lAt (gtab g.ls.length (scrollAt g.ls C (clampI n g.ls.length) p)) i = scrollAt g.ls C (clampI n g.ls.length) p i := gtab_lAt _ _ _ (by rw [h.len]; exact hi)
    show (lAt (gtab g.ls.length (scrollAt g.ls C (clampI n g.ls.length) p)) i).length = C ∧ rightL (lAt (gtab g.ls.length (scrollAt g.ls C (clampI n g.ls.length) p)) i) = true ∧ LB (lAt (gtab g.ls.length (scrollAt g.ls C (clampI n g.ls.length) p)) i)
    rw [e]
    unfold scrollAt
    split
    · rename_i hq
      exact h.each _ (by have := h.len; omega)
    · exact ⟨tab_len _ _, right_blanks C hp, LB_tab fun _ _ => celB_blank _⟩
  · exact h
theorem GOk.fit (h : GOk g R C) {R' C' : Nat} (r1 : 1 ≤ R') (r2 : R' ≤ 512) (c1 : 1 ≤ C') (c2 : C' ≤ 512) : GOk (fitG g R' C') R' C' := by
  refine ⟨r1, r2, c1, c2, gtab_len _ _, fun i hi => ?_, nearN_lt _ _ r1, nearN_lt _ _ c1⟩
  have e : lAt (fitG g R' C').ls i = fitAtG g.ls C' i := gtab_lAt _ _ _ hi
  rw [e]
  unfold fitAtG
  split
  · rename_i q
    obtain ⟨h1, h2, h3⟩ := h.each i (by rw [← h.len]; exact q)
    exact ⟨by rw [fit_len, lenN_nat _ c2], right_fit h2, LB_fit h3⟩
  · exact ⟨newC_len _ c2, right_new _ c2, LB_new _⟩
end
end Go.Proofs.YtkijclgbpbhglaaGreatDoor
