/-
  Contracts: the document's sizes, a row that there is, columns, a number brought to a bound, a new grid, a grid with another line.
-/
import Derived.Test.YtiifeniijcnahaaGreatDoorGBase
import Derived.Test.YtiifeniijcnahaaGreatDoorChainL
namespace Go.Proofs.YtiifeniijcnahaaGreatDoor
set_option maxRecDepth 100000
open Go.ChangeShapes Go.WideShapes Go.ChangeAt Go.RowKit
set_option linter.unusedVariables false

def sizeB (r c : Int) : Bool := decide (sizeN r c)
theorem rsize_any (r c : Int) (w : World) : Calls Tryz.prog 7 #[.int .i64 r, .int .i64 c] w fun e w' => e = .returned (.bool (sizeB r c)) ∧ w = w' := by
  by_cases h : sizeN r c
  · have HD : Hid (sizeB r c = true) := by unfold Hid sizeB; simpa using h
    obtain ⟨⟨h1, h2⟩, h3, h4⟩ := h
    go_enter Tryz.func7, Tryz.ntmps7
    go_wp2
    go_ret
    exact ⟨ret_bool HD.out.symm, rfl⟩
  · have HD : Hid (sizeB r c = false) := by unfold Hid sizeB; simpa using h
    have HN := hide h
    clear h
    by_cases h1 : 1 ≤ r
    · by_cases h2 : r ≤ 512
      · by_cases h3 : 1 ≤ c
        · have h4 : ¬ c ≤ 512 := fun q => HN.out ⟨⟨h1, h2⟩, h3, q⟩
          go_enter Tryz.func7, Tryz.ntmps7
          go_wp2
          go_ret
          exact ⟨ret_bool HD.out.symm, rfl⟩
        · go_enter Tryz.func7, Tryz.ntmps7
          go_wp2
          go_ret
          exact ⟨ret_bool HD.out.symm, rfl⟩
      · go_enter Tryz.func7, Tryz.ntmps7
        go_wp2
        go_ret
        exact ⟨ret_bool HD.out.symm, rfl⟩
    · go_enter Tryz.func7, Tryz.ntmps7
      go_wp2
      go_ret
      exact ⟨ret_bool HD.out.symm, rfl⟩
theorem new1W (w : World) (o : Obj) : Below w.heap.size w (w.alloc o) := (Below.refl _ _).alloc (Nat.le_refl _) _
theorem rhas_any (A : Option Addr) (R cap : Nat) (row col r : Int) (w : World) : Calls Tryz.prog 19 #[.agg #[.slice A R cap, .int .i64 row, .int .i64 col], .int .i64 r] w (Said (decide (hasG R r)) w) := by
  have HB : Hid (Below w.heap.size w (w.alloc (.cells #[.slice A R cap, .int .i64 row, .int .i64 col] 32))) := new1W _ _
  by_cases h0 : 0 ≤ r
  · by_cases h1 : r < (R : Int)
    · have HD : Hid (decide (hasG R r) = true) := by unfold Hid hasG; simp [h0, h1]
      go_enter Tryz.func19, Tryz.ntmps19
      go_wp2
      go_ret
      exact ⟨ret_bool HD.out.symm, HB.out⟩
    · have HD : Hid (decide (hasG R r) = false) := by unfold Hid hasG; simp [h1]
      go_enter Tryz.func19, Tryz.ntmps19
      go_wp2
      go_ret
      exact ⟨ret_bool HD.out.symm, HB.out⟩
  · have HD : Hid (decide (hasG R r) = false) := by unfold Hid hasG; simp [h0]
    go_enter Tryz.func19, Tryz.ntmps19
    go_wp2
    go_ret
    exact ⟨ret_bool HD.out.symm, HB.out⟩
theorem rgcols_any (A : Option Addr) (R cap C : Nat) (row col : Int) (ls : List (List Cel)) (w : World) (h : Lns w A ls) (hR : ls.length = R) (h1 : 1 ≤ R) (hC : (lAt ls 0).length = C) : Calls Tryz.prog 20 #[.agg #[.slice A R cap, .int .i64 row, .int .i64 col]] w (Num .i64 (C : Int) w) := by
  have HB : Hid (Below w.heap.size w (w.alloc (.cells #[.slice A R cap, .int .i64 row, .int .i64 col] 32))) := new1W _ _
  obtain ⟨b, A', c', rfl, hb, hc, -⟩ := h.at (i := 0) (by omega)
  rw [hC] at hc
  have e1 : ((R : Int) == 0) = false := by simp; omega
  clear h
  go_enter Tryz.func20, Tryz.ntmps20
  go_wp2
  go_ret
  exact ⟨rfl, HB.out⟩
theorem bring_any (x : Int) (n : Nat) (hn : 1 ≤ n) (hl : n ≤ 512) (w : World) : Calls Tryz.prog 84 #[.int .i64 x, .int .i64 (n : Int)] w fun e w' => e = .returned (.int .i64 (nearN x n : Int)) ∧ w = w' := by
  by_cases h1 : (n : Int) ≤ x
  · have HE : Hid ((nearN x n : Int) = (n : Int) - 1) := by unfold Hid nearN; omega
    go_enter Tryz.func84, Tryz.ntmps84
    go_wp2
    go_ret
    exact ⟨by rw [HE.out]; rfl, rfl⟩
  · by_cases h0 : x < 0
    · have HE : Hid ((nearN x n : Int) = 0) := by unfold Hid nearN; omega
      go_enter Tryz.func84, Tryz.ntmps84
      go_wp2
      go_ret
      exact ⟨by rw [HE.out]; rfl, rfl⟩
    · have HE : Hid ((nearN x n : Int) = x) := by unfold Hid nearN; omega
      go_enter Tryz.func84, Tryz.ntmps84
      go_wp2
      go_ret
      exact ⟨by rw [HE.out]; rfl, rfl⟩

/-- The call gave the document's grid, wherever it lies; all that was there is left. -/
def GaveD (R : Nat) (g : Gd) (w : World) (e : Ending) (w' : World) : Prop := ∃ A cap, e = .returned (.agg #[.slice A R cap, .int .i64 (g.row : Int), .int .i64 (g.col : Int)]) ∧ Lns w' A g.ls ∧ Below w.heap.size w w'
/-- .. and told whether. -/
def GaveD2 (R : Nat) (g : Gd) (ok : Bool) (w : World) (e : Ending) (w' : World) : Prop := ∃ A cap, e = .returned (.tuple #[.agg #[.slice A R cap, .int .i64 (g.row : Int), .int .i64 (g.col : Int)], .bool ok]) ∧ Lns w' A g.ls ∧ Below w.heap.size w w'
/-- .. in a row of its own. -/
def OwnD (R : Nat) (g : Gd) (w : World) (e : Ending) (w' : World) : Prop := ∃ b cap, e = .returned (.agg #[.slice (some ⟨b, 0, none⟩) R cap, .int .i64 (g.row : Int), .int .i64 (g.col : Int)]) ∧ Lns w' (some ⟨b, 0, none⟩) g.ls ∧ Below w.heap.size w w' ∧ w.heap.size ≤ b
theorem RwsC.fresh {B : Nat} {w wr : World} {A : Option Addr} {n cap : Nat} {zss : List (List Cel)} (h : RwsC B w wr (.slice A n cap) zss) (h1 : 1 ≤ zss.length) : ∃ b, A = some ⟨b, 0, none⟩ ∧ B ≤ b := by
  obtain ⟨xs, ho, _⟩ := h.row
  rcases ho.2 with ⟨e, h0⟩ | ⟨g, cap', cur, e, hB, _⟩
  · omega
  · cases e
    exact ⟨g, rfl, hB⟩
theorem Below.put3 {B : Nat} {W w : World} {q : Nat} (h : Below B W w) (hq : B ≤ q) (x0 x1 x2 : Value) : Below B W (((w.setCell ⟨q, 0, none⟩ x0).setCell ⟨q, 1, none⟩ x1).setCell ⟨q, 2, none⟩ x2) := below_put3 h hq x0 x1 x2
theorem Lns.put3 {w : World} {A : Option Addr} {ls : List (List Cel)} {q : Nat} {t : TypeId} {l : List Value} (h : Lns w A ls) (hq : Whole w q t l) (h1 : t ≠ 52) (h2 : t ≠ 73) (x0 x1 x2 : Value) : Lns (((w.setCell ⟨q, 0, none⟩ x0).setCell ⟨q, 1, none⟩ x1).setCell ⟨q, 2, none⟩ x2) A ls :=
  h.keep (((Stays.put hq (Ne.symm h1)).trans (Stays.put (hq.put 0 x0) (Ne.symm h1))).trans (Stays.put ((hq.put 0 x0).put 1 x1) (Ne.symm h1))) (((Stays.put hq (Ne.symm h2)).trans (Stays.put (hq.put 0 x0) (Ne.symm h2))).trans (Stays.put ((hq.put 0 x0).put 1 x1) (Ne.symm h2)))
set_option maxHeartbeats 4000000 in
theorem rgnew_any (R C : Nat) (hR1 : 1 ≤ R) (hR : R ≤ 512) (w : World) : Calls Tryz.prog 9 #[.int .i64 (R : Int), .int .i64 (C : Int)] w (OwnD R (newG R C) w) := by
  obtain ⟨W0, hW0⟩ : ∃ W0, (w.alloc (.cells #[.slice none 0 0, .int .i64 0, .int .i64 0] 32)).alloc (.cells #[.slice none 0 0, .int .i64 0, .int .i64 0] 32) = W0 := ⟨_, rfl⟩
  have HB0 : Hid (Below w.heap.size w W0) := by unfold Hid; rw [← hW0]; exact two_new w _ _ [.slice none 0 0, .int .i64 0, .int .i64 0] [.slice none 0 0, .int .i64 0, .int .i64 0]
  have HP0 : Hid (Whole W0 w.heap.size 32 [.slice none 0 0, .int .i64 0, .int .i64 0]) := by unfold Hid; rw [← hW0]; exact (Whole.new w 32 [.slice none 0 0, .int .i64 0, .int .i64 0]).alloc _
  have HQ0 : Hid (Whole W0 (w.heap.size + 1) 32 [.slice none 0 0, .int .i64 0, .int .i64 0]) := by unfold Hid; rw [← hW0]; exact whole_snd w _ 32 [.slice none 0 0, .int .i64 0, .int .i64 0]
  have HW0 := hide hW0
  clear hW0
  go_enter Tryz.func9, Tryz.ntmps9
  go_wp2
  rw [HW0.out]
  go_loopw [6] (fun i wr => ∃ (k : Nat) (v : Value), k ≤ R ∧ i = .int .i64 k ∧ RwsC w.heap.size w wr v (gtab k (fun _ => newC (C : Int))) ∧ Whole wr (w.heap.size + 1) 32 [v, .int .i64 0, .int .i64 0] ∧ Whole wr w.heap.size 32 [.slice none 0 0, .int .i64 0, .int .i64 0]) (fun i _ => R - (intOf i).toNat)
  case atStart => exact ⟨0, _, Nat.zero_le _, rfl, RwsC.from0 HB0.out.size HB0.out, HQ0.out, HP0.out⟩
  case round =>
    obtain ⟨k, v, hk, rfl, hv, hq, hp⟩ := hrel
    have HV := hide hv
    have HQ := hide hq
    have HP := hide hp
    obtain ⟨Av, cv, rfl, -⟩ := hv.form
    rw [gtab_len] at HV HQ hq
    clear hv hp
    by_cases hlt : k < R
    · obtain ⟨b0, b1, b2, lb⟩ := cells3 hq
      clear hq
      go_wp2
      refine wp_region_chainL (fun w' => Below wr.heap.size wr w') 5 [(0, 2), (0, 0), (0, 1), (1, 3), (1, 4), (3, 5), (3, 6), (3, 7)] (by kernel_rfl) (by kernel_rfl) (by kernel_rfl) (fun _ _ _ _ _ h => h) ?_ ?_
      · exact (Below.refl _ _).drewN 1
      refine chainL_take (v := ?_) (by simp only [List.getElem?_toArray, List.getElem?_cons_zero, List.getElem?_cons_succ]; rfl) (by rfl) (fun w hS => ?_) ?_
      rotate_left
      · go_simp <;> with_reducible rfl
      simp only [Act.put, List.setIfInBounds_toArray, List.set_cons_zero, List.set_cons_succ]
      refine chainL_take (v := ?_) (by simp only [List.getElem?_toArray, List.getElem?_cons_zero]; rfl) (by rfl) (fun w hS => ?_) ?_
      rotate_left
      · go_simp <;> with_reducible rfl
      simp only [Act.put, List.setIfInBounds_toArray, List.set_cons_zero, List.set_cons_succ]
      refine chainL_take (v := ?_) (by simp only [List.getElem?_toArray, List.getElem?_cons_zero, List.getElem?_cons_succ]; rfl) (by rfl) (fun w hS => ?_) ?_
      rotate_left
      · obtain ⟨b0, b1, b2, -⟩ := cells3 (HQ.out.later hS); go_simp <;> with_reducible rfl
      simp only [Act.put, List.setIfInBounds_toArray, List.set_cons_zero, List.set_cons_succ]
      refine chainL_alone (by simp only [List.getElem?_toArray, List.getElem?_cons_zero, List.getElem?_cons_succ]; rfl) ?_
      intro K hK
      go_wp2_with fail
      refine (rnew_any (C : Int) _).mono ?_
      rintro e k1 ⟨x, rfl, hx⟩
      have Bk1 : Below wr.heap.size wr k1 := ((Below.refl _ _).drewN 1).trans hx.bel
      have HX := hide hx.rowOk
      have HV1 := hide (HV.out.later Bk1)
      have HQ1 := hide (HQ.out.later Bk1)
      have HP1 := hide (HP.out.later Bk1)
      obtain ⟨Ax, cx, rfl, -⟩ := hx.rowOk
      clear hx
      go_wp2
      refine hK.out _ _ (Bk1) ?_
      clear hK K
      refine chainL_alone (by simp only [List.getElem?_toArray, List.getElem?_cons_zero, List.getElem?_cons_succ]; rfl) ?_
      intro K hK
      go_wp2
      refine hK.out _ _ (Bk1.alloc Bk1.size _) ?_
      clear hK K
      refine chainL_late (by simp only [List.getElem?_toArray, List.getElem?_cons_zero, List.getElem?_cons_succ]; rfl) ?_
      intro K hK
      go_wp2_with (at_builtin; refine stopw ?_)
      unfold Hid
      refine wpList_pushL rfl _ _ rfl rfl rfl HV1.out HX.out (by rw [gtab_len]; omega) ?_
      intro v2 w2 hown hoth
      have HV2 : Hid (RwsC w.heap.size w w2 v2 (gtab (k + 1) (fun _ => newC (C : Int)))) := by unfold Hid; rw [gtab_snoc]; exact hown
      have HQ2 := hide (hoth _ _ _ (by decide) HQ1.out)
      have HP2 := hide (hoth _ _ _ (by decide) HP1.out)
      clear hown hoth
      obtain ⟨A2, cap2, rfl, -⟩ := HV2.out.form
      rw [gtab_len] at HV2 ⊢
      obtain ⟨d0, d1, d2, ld⟩ := cells3 HQ2.out
      have hz := HQ2.out.frozen
      go_wp2
      refine hK.out _ _ ?_
      clear hK K
      refine chainL_late (by simp only [List.getElem?_toArray, List.getElem?_cons_zero, List.getElem?_cons_succ]; rfl) ?_
      intro K hK
      go_wp2
      refine hK.out _ _ ?_
      clear hK K
      refine chainL_late (by simp only [List.getElem?_toArray, List.getElem?_cons_zero, List.getElem?_cons_succ]; rfl) ?_
      intro K hK
      go_wp2
      refine hK.out _ _ ?_
      clear hK K
      refine chainL_nil ?_
      have HQ3 := hide (HQ2.out.put 0 (.slice A2 (k + 1) cap2))
      have HP3 := hide (HP2.out.far (Only.put (g := w.heap.size + 1) 0 (.slice A2 (k + 1) cap2)) (by omega))
      have HV3 := hide (HV2.out.put (i := 0) (u := .slice A2 (k + 1) cap2) HQ2.out (by decide) (by decide) (by omega))
      clear d0 d1 d2 ld hz Bk1 b0 b1 b2 lb
      go_wp2
      go_roundw
      case rel => exact ⟨k + 1, _, by omega, by go_num, HV3.out, HQ3.out, HP3.out⟩
      case measure => simp [intOf]; omega
    · obtain rfl : k = R := by omega
      obtain ⟨b, rfl, hfb⟩ := HV.out.fresh (by rw [gtab_len]; omega)
      obtain ⟨b0, b1, b2, lb⟩ := cells3 hq
      obtain ⟨d0, d1, d2, ld⟩ := cells3 HP.out
      have hz := HP.out.frozen
      have HFB := hide hfb
      clear hq hfb
      go_wp2
      refine retG Tryz.results9 rfl rfl (put3 HP.out _ _ _) ⟨b, cv, rfl, ?_, below_put3 HV.out.bel (Nat.le_refl _) _ _ _, HFB.out⟩
      obtain ⟨A3, c3, e3, -, -, -, hL⟩ := HV.out.form
      rw [gtab_len] at e3
      cases e3
      exact hL.put3 HP.out (by decide) (by decide) _ _ _
end Go.Proofs.YtiifeniijcnahaaGreatDoor
