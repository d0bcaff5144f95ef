/-
  Contract: a line with blanks from a place to another one (the program's).
-/
import Derived.Test.YtdeoeihbmdgipaaDoorLNew
import Derived.Test.YtdeoeihbmdgipaaDoorChainH
namespace Go.Proofs.YtdeoeihbmdgipaaDoor
open Go.ChangeShapes Go.WideShapes Go.ChangeAt Go.RowKit
set_option linter.unusedVariables false

set_option maxRecDepth 100000 in
set_option maxHeartbeats 1000000 in
theorem hold_any (x : Int) (q n : Nat) (A : Option Addr) (c : Nat) (w : World) (h : w.cell? ⟨q, 0, none⟩ = some (.slice A n c)) (m : Nat) (hm : min (max x 0) (n : Int) = (m : Int)) :
    Calls Tryd.prog 45 #[.int .i64 x, .pointer (some ⟨q, 0, none⟩)] w fun e w' => e = .returned (.int .i64 (m : Int)) ∧ w = w' := by
  go_enter Tryd.func45, Tryd.ntmps45
  go_wp2
  go_ret
  exact ⟨rfl, rfl⟩
/-- A number brought to 0 to n. -/
def clampN (x : Int) (n : Nat) : Nat := (min (max x 0) (n : Int)).toNat
theorem clampN_is (x : Int) (n : Nat) : min (max x 0) (n : Int) = (clampN x n : Int) := by unfold clampN; omega
theorem clampN_le (x : Int) (n : Nat) : clampN x n ≤ n := by unfold clampN; omega
theorem fill_erase (cs : List Cel) (x y : Int) (p : Pn) (n : Nat) (hn : cs.length = n) (h : clampN x n < clampN y n) : fillC cs (clampN x n) (clampN y n - clampN x n) (blankC p) = eraseTab cs x y p := by
  unfold fillC eraseTab
  refine tab_eq fun i hi => ?_
  unfold clampN at *
  by_cases q : x ≤ (i : Int) ∧ (i : Int) < y
  · rw [if_pos q, if_pos (by omega)]
  · rw [if_neg q, if_neg (by omega)]
theorem none_erase (cs : List Cel) (x y : Int) (p : Pn) (n : Nat) (hn : cs.length = n) (h : ¬ clampN x n < clampN y n) : eraseTab cs x y p = cs := by
  unfold eraseTab
  conv => rhs; rw [← tab_self cs]
  refine tab_eq fun i hi => ?_
  unfold clampN at *
  rw [if_neg (by omega)]
theorem eraseTab_len (cs : List Cel) (x y : Int) (p : Pn) : (eraseTab cs x y p).length = cs.length := tab_len _ _
theorem erase_len (cs : List Cel) (x y : Int) (p : Pn) : (eraseC cs x y p).length = cs.length := by unfold eraseC; rw [mend_len, eraseTab_len]
set_option maxRecDepth 100000 in
set_option maxHeartbeats 2000000 in
theorem erase_any (A : Option Addr) (n c : Nat) (x y : Int) (f g b : Nat) (cs : List Cel) (w : World) (h : Cels .i32 w A cs) (hn : cs.length = n) (hl : n ≤ 1000000) :
    Calls Tryd.prog 16 #[.slice A n c, .int .i64 x, .int .i64 y, .agg #[.int .u8 (f : Int), .int .u8 (g : Int), .int .u8 (b : Int)]] w (Lined (eraseC cs x y ⟨f, g, b⟩) w) := by
  have HC := hide h
  have HN := hide hn
  obtain ⟨X, hX⟩ : ∃ X, clampN x n = X := ⟨_, rfl⟩
  obtain ⟨Y, hY⟩ : ∃ Y, clampN y n = Y := ⟨_, rfl⟩
  have HX : Hid (min (max x 0) (n : Int) = (X : Int)) := by unfold Hid; rw [clampN_is, hX]
  have HY : Hid (min (max y 0) (n : Int) = (Y : Int)) := by unfold Hid; rw [clampN_is, hY]
  have hYn : Y ≤ n := by rw [← hY]; exact clampN_le y n
  have HF : Hid (X < Y → fillC cs X (Y - X) (blankC ⟨f, g, b⟩) = eraseTab cs x y ⟨f, g, b⟩) := by
    unfold Hid; intro q; rw [← hX, ← hY] at q ⊢; exact fill_erase cs x y _ n hn q
  have HE : Hid (¬ X < Y → eraseTab cs x y ⟨f, g, b⟩ = cs) := by
    unfold Hid; intro q; rw [← hX, ← hY] at q; exact none_erase cs x y _ n hn q
  clear hX hY
  obtain ⟨W0, hW0⟩ : ∃ W0, w.alloc (.cells #[.int .u8 (f : Int), .int .u8 (g : Int), .int .u8 (b : Int)] 25) = W0 := ⟨_, rfl⟩
  have HB0 : Hid (Below w.heap.size w W0) := by unfold Hid; rw [← hW0]; exact (Below.refl _ _).alloc (Nat.le_refl _) _
  have HP0 : Hid (Whole W0 w.heap.size 25 [.int .u8 (f : Int), .int .u8 (g : Int), .int .u8 (b : Int)]) := by unfold Hid; rw [← hW0]; exact Whole.new w 25 [.int .u8 (f : Int), .int .u8 (g : Int), .int .u8 (b : Int)]
  have HC0 : Hid (Cels .i32 W0 A cs) := by unfold Hid; rw [← hW0]; exact HC.out.alloc _
  have HW0 := hide hW0
  clear h hn hW0 HC
  go_enter Tryd.func16, Tryd.ntmps16
  go_wp2_with fail
  rw [HW0.out]
  refine (copied_any A n c cs W0 HC0.out HN.out hl).mono ?_
  rintro e w1 ⟨g1, rfl, hg, hw, hb⟩
  rw [HN.out]
  obtain ⟨W1, hW1⟩ : ∃ W1, w1.alloc (.cells #[.slice (some ⟨g1, 0, none⟩) n n] 22) = W1 := ⟨_, rfl⟩
  have HB1 : Hid (Below w.heap.size w W1) := by unfold Hid; rw [← hW1]; have q := HB0.out.trans (hb.mono HB0.out.size); exact q.alloc q.size _
  have HP1 : Hid (Whole W1 w.heap.size 25 [.int .u8 (f : Int), .int .u8 (g : Int), .int .u8 (b : Int)]) := by unfold Hid; rw [← hW1]; exact (HP0.out.later hb).alloc _
  have HG1 : Hid (Whole W1 g1 27 (flatC .i32 cs)) := by unfold Hid; rw [← hW1]; exact hw.alloc _
  have HQ1 : Hid (Whole W1 w1.heap.size 22 [.slice (some ⟨g1, 0, none⟩) n n]) := by unfold Hid; rw [← hW1]; exact Whole.new w1 22 [.slice (some ⟨g1, 0, none⟩) n n]
  have HG : Hid (w.heap.size ≤ g1) := by unfold Hid; exact Nat.le_trans HB0.out.size hg
  have HNP : Hid (w.heap.size ≠ g1) := by unfold Hid; have := HP0.out.lt; omega
  have HNQ : Hid (w1.heap.size ≠ g1) := by unfold Hid; have := hw.lt; omega
  have HW1 := hide hW1
  clear hg hw hb hW1
  go_wp2_with fail
  rw [HW1.out]
  refine (hold_any x w1.heap.size n (some ⟨g1, 0, none⟩) n W1 (HQ1.out.cell 0) X HX.out).mono ?_
  rintro e w2 ⟨rfl, rfl⟩
  go_wp2_with fail
  refine (hold_any y w1.heap.size n (some ⟨g1, 0, none⟩) n W1 (HQ1.out.cell 0) Y HY.out).mono ?_
  rintro e w2 ⟨rfl, rfl⟩
  by_cases hXY : X < Y
  · have HD := hide (HF.out hXY)
    go_wp2
    refine wp_region_chainH (fun w' => Only g1 W1 w') [(true, 1), (true, 2), (true, 0), (true, 4), (false, 3), (false, 5), (false, 6)] (by kernel_rfl) (by kernel_rfl) (by kernel_rfl) (fun _ _ _ _ _ h => h) ?_ ?_
    · exact Only.of_below ((Below.refl _ _).drewN 1)
    refine chainH_take (v := ?_) (by simp only [List.getElem?_toArray, List.getElem?_cons_zero, List.getElem?_cons_succ]; rfl) (by rfl) (fun w hS => ?_) ?_
    rotate_left
    · go_simp <;> with_reducible rfl
    simp only [Act.put, List.setIfInBounds_toArray, List.set_cons_zero, List.set_cons_succ]
    refine chainH_take (v := ?_) (by simp only [List.getElem?_toArray, List.getElem?_cons_zero, List.getElem?_cons_succ]; rfl) (by rfl) (fun w hS => ?_) ?_
    rotate_left
    · go_simp <;> with_reducible rfl
    simp only [Act.put, List.setIfInBounds_toArray, List.set_cons_zero, List.set_cons_succ]
    refine chainH_take (v := ?_) (by simp only [List.getElem?_toArray, List.getElem?_cons_zero]; rfl) (by rfl) (fun w hS => ?_) ?_
    rotate_left
    · have f0 := (HQ1.out.far hS HNQ.out).cell 0; go_simp <;> with_reducible rfl
    simp only [Act.put, List.setIfInBounds_toArray, List.set_cons_zero, List.set_cons_succ]
    refine chainH_take (v := ?_) (by simp only [List.getElem?_toArray, List.getElem?_cons_zero, List.getElem?_cons_succ]; rfl) (by rfl) (fun w hS => ?_) ?_
    rotate_left
    · obtain ⟨a0, a1, a2, -⟩ := cells3 (HP1.out.far hS HNP.out); go_simp <;> with_reducible rfl
    simp only [Act.put, List.setIfInBounds_toArray, List.set_cons_zero, List.set_cons_succ]
    refine chainH_alone (by simp only [List.getElem?_toArray, List.getElem?_cons_zero, List.getElem?_cons_succ]; rfl) ?_
    intro K hK
    go_wp2_with fail
    refine (cut_any g1 n X Y _ hXY hYn).mono ?_
    rintro e k1 ⟨rfl, rfl⟩
    have Ok1 : Only g1 W1 W1.drew := Only.of_below ((Below.refl _ _).drewN 1)
    go_wp2
    refine hK.out _ _ Ok1 ?_
    clear hK K
    refine chainH_alone (by simp only [List.getElem?_toArray, List.getElem?_cons_zero, List.getElem?_cons_succ]; rfl) ?_
    intro K hK
    go_wp2_with fail
    refine (blank_v f g b _).mono ?_
    rintro e k2 ⟨rfl, hb⟩
    have Ok2 : Only g1 W1 k2 := Ok1.trans (Only.of_below hb)
    have Wk2 := hide ((HG1.out.drewN 1).later (w' := k2) hb)
    clear hb
    go_wp2
    refine hK.out _ _ Ok2 ?_
    clear hK K
    refine chainH_alone (by simp only [List.getElem?_toArray, List.getElem?_cons_zero, List.getElem?_cons_succ]; rfl) ?_
    intro K hK
    go_wp2_with fail
    refine (fill_any g1 X (Y - X) (Y - X) 32 0 0 1 f g b cs k2 Wk2.out (by rw [HN.out]; omega) (by rw [HN.out]; exact hl)).mono ?_
    rintro e k3 ⟨rfl, hw3, ho3⟩
    have Ok3 : Only g1 W1 k3 := Ok2.trans ho3
    have Wk3 : Hid (Whole k3 g1 27 (flatC .i32 (eraseTab cs x y ⟨f, g, b⟩))) := by unfold Hid; rw [← HD.out]; exact hw3
    have HO3 := hide Ok3
    clear hw3 ho3
    go_wp2
    refine hK.out _ _ Ok3 ?_
    clear hK K
    refine chainH_nil ?_
    clear Ok1 Ok2 Ok3
    have f0 := (HQ1.out.far HO3.out HNQ.out).cell 0
    simp only [List.getElem?_cons_zero] at f0
    go_wp2_with fail
    refine (mendown_any g1 n (eraseTab cs x y ⟨f, g, b⟩) k3 Wk3.out (by rw [eraseTab_len, HN.out]) hl).mono ?_
    rintro e k4 ⟨rfl, hw, ho⟩
    clear f0
    go_wp2
    go_ret
    exact ⟨g1, by rw [erase_len, HN.out]; rfl, HG.out, hw, (HO3.out.trans ho).below HB1.out HB1.out.size HG.out⟩
  · have HD := hide (HE.out hXY)
    have f0 := HQ1.out.cell 0
    simp only [List.getElem?_cons_zero] at f0
    go_wp2_with fail
    refine (mendown_any g1 n cs W1 HG1.out HN.out hl).mono ?_
    rintro e k4 ⟨rfl, hw, ho⟩
    clear f0
    go_wp2
    go_ret
    exact ⟨g1, by rw [erase_len, HN.out]; rfl, HG.out, by unfold eraseC; rw [HD.out]; exact hw, ho.below HB1.out HB1.out.size HG.out⟩
end Go.Proofs.YtdeoeihbmdgipaaDoor
