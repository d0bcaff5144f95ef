/-
  Contracts: a cell of a grid, whether grids are the same, whether a grid is right, rows scrolled (the program's).
-/
import Derived.Test.YtiifeniijcnahaaGreatDoorGScr
import Derived.Test.YtiifeniijcnahaaGreatDoorGNew
namespace Go.Proofs.YtiifeniijcnahaaGreatDoor
set_option maxRecDepth 100000
open Go.ChangeShapes Go.WideShapes Go.ChangeAt Go.RowKit
set_option linter.unusedVariables false

/-! ### scrolled -/
section
variable {w : World} {G L M R C : Nat} {g : Gd}
theorem scroll_any (h : Grd w G L M R C g) (hR : 1 ≤ R) (hR2 : R ≤ 512) (hC : 1 ≤ C) (hC2 : C ≤ 512) (hS : Spans w) (n : Int) (f y b : Nat) :
    Calls Tryz.prog 34 #[.pointer (some ⟨G, 0, none⟩), .int .i64 n, .agg #[.int .u8 (f : Int), .int .u8 (y : Int), .int .u8 (b : Int)]] w (Scrolled R C (scrollG g C n ⟨f, y, b⟩) w G L M) := by
  by_cases hp : rightN ⟨f, y, b⟩ = true
  · obtain ⟨c, hc⟩ : ∃ c, clampI n R = c := ⟨_, rfl⟩
    have h1 : -(R : Int) ≤ c ∧ c ≤ (R : Int) := by rw [← hc]; unfold clampI; omega
    by_cases h0 : 0 ≤ c
    · exact scroll_up h hR hR2 hC hC2 hS n f y b hp c.toNat _ (by omega) rfl (by rw [hc]; omega)
    · exact scroll_down h hR hR2 hC hC2 hS n f y b hp (-c).toNat _ (by omega) rfl (by omega) (by rw [hc]; omega)
  · obtain ⟨W0, hW0⟩ : ∃ W0, w.alloc (.cells #[.int .u8 (f : Int), .int .u8 (y : Int), .int .u8 (b : Int)] 38) = W0 := ⟨_, rfl⟩
    have HB0 : Hid (Below w.heap.size w W0) := by unfold Hid; rw [← hW0]; exact (Below.refl _ _).alloc (Nat.le_refl _) _
    have HP0 : Hid (Whole W0 w.heap.size 38 [.int .u8 (f : Int), .int .u8 (y : Int), .int .u8 (b : Int)]) := by unfold Hid; rw [← hW0]; exact Whole.new w 38 [.int .u8 (f : Int), .int .u8 (y : Int), .int .u8 (b : Int)]
    have HE : Hid (scrollG g C n ⟨f, y, b⟩ = g) := by unfold Hid scrollG; rw [if_neg hp]
    have HPR : Hid (rightN ⟨f, y, b⟩ = false) := by unfold Hid; simpa using hp
    have HG := hide h
    have HW0 := hide hW0
    obtain ⟨a0, a1, a2, lP⟩ := cells3 HP0.out
    clear hW0 h hp hS
    go_enter Tryz.func34, Tryz.ntmps34
    go_wp2_with fail
    rw [HW0.out]
    refine (right_any f y b W0).mono ?_
    rintro e W1 ⟨rfl, hb⟩
    rw [HPR.out]
    have HB := hide (HB0.out.trans (hb.mono HB0.out.size))
    clear a0 a1 a2 lP hb
    go_wp2
    exact bodyPost_ret (v := .tuple #[]) (by simp [results, Tryz.results34]) rfl ⟨rfl, L, by rw [HE.out]; exact HG.out.later HB.out, Trn.of_below HB.out, .inl rfl⟩
theorem scroll_nil (n : Int) (f y b : Nat) (w : World) : Calls Tryz.prog 34 #[.pointer none, .int .i64 n, .agg #[.int .u8 (f : Int), .int .u8 (y : Int), .int .u8 (b : Int)]] w fun e w' => e = .returned (.tuple #[]) ∧ Below w.heap.size w w' := by
  have HB : Hid (Below w.heap.size w (w.alloc (.cells #[.int .u8 (f : Int), .int .u8 (y : Int), .int .u8 (b : Int)] 38))) := (Below.refl _ _).alloc (Nat.le_refl _) _
  go_enter Tryz.func34, Tryz.ntmps34
  go_wp2
  exact bodyPost_ret (v := .tuple #[]) (by simp [results, Tryz.results34]) rfl ⟨rfl, HB.out⟩
end

/-! ### the same -/
theorem fieldsCur : fieldsAre Tryz.prog 91 [(false, 3, 0), (false, 3, 1)] := by unfold fieldsAre; kernel_rfl
theorem eqlCur (m n m' n' : Int) (w : World) : (binOp .eql 91 (.agg #[.int .i64 m, .int .i64 n]) (.agg #[.int .i64 m', .int .i64 n'])).run Tryz.prog w = .ok (.bool (eqM m n m' n')) w := by
  rw [run_eql_struct, run_equalIn_agg w 9999 91 _ _ Tryz.underlying91 Tryz.stoodInHeld91]
  have h3 := fieldsCur
  unfold fieldsAre at h3
  generalize (Tryz.prog.fieldsOf 91).toList = fs at h3
  have hl : fs.length = 2 := by have := congrArg List.length h3; simpa using this
  match fs, hl with
  | [f0, f1], _ =>
    simp only [List.map_cons, List.map_nil, List.cons.injEq, Prod.mk.injEq, beq_eq_false_iff_ne, ne_eq, and_true] at h3
    obtain ⟨⟨n0, t0, o0⟩, n1, t1, o1⟩ := h3
    simp only [Op.eqFields, n0, n1, t0, t1, o0, o1, ne_eq, not_false_eq_true, if_true, Sem.run_bind, part3 #[Value.int .i64 m, .int .i64 n] 0 m rfl, part3 #[Value.int .i64 m, .int .i64 n] 1 n rfl,
      part3 #[Value.int .i64 m', .int .i64 n'] 0 m' rfl, part3 #[Value.int .i64 m', .int .i64 n'] 1 n' rfl, Result.andThen_ok, run_equalIn_int w _ 3 .i64 .i64 _ _ Tryz.underlying3, Sem.run_ite, Sem.run_pure]
    unfold eqM
    cases hf : m == m' <;> cases hg : n == n' <;> simp
section
variable {w : World} {G L M R C G' L' M' R' C' : Nat} {g g' : Gd} {cap cap' : Nat} {ps ps' : Nat → Nat} {room room' : List Cel} {more more' : List Value}
theorem ls_eq {a b : List (List Cel)} {n : Nat} (ha : a.length = n) (hb : b.length = n) : decide (a = b) = true ↔ ∀ i, i < n → lAt a i = lAt b i := by
  rw [decide_eq_true_iff]
  constructor
  · rintro rfl i _; rfl
  · intro h
    rw [← gtab_self a, ← gtab_self b, ha, hb]
    exact gtab_eq h
set_option maxHeartbeats 2000000 in
theorem equalf_any (h : GridAt w G L M R C g cap ps room more) (h' : GridAt w G' L' M' R' C' g' cap' ps' room' more') (hR : R ≤ 512) (hR' : R' ≤ 512) (hC : C ≤ 512) :
    Calls Tryz.prog 61 #[.slice (some ⟨L, 0, none⟩) R cap, .slice (some ⟨L', 0, none⟩) R' cap', .func (.func 62) #[] #[]] w (Said (decide (g.ls = g'.ls)) w) := by
  have H := hide h
  have H' := hide h'
  clear h h'
  by_cases hne : R = R'
  · subst hne
    have HQ := hide (ls_eq H.out.glen H'.out.glen)
    go_enter Tryz.func61, Tryz.ntmps61
    go_wp2
    go_loopw [7, 8, 9, 17] (fun _ _ _ i wr => ∃ k : Nat, k ≤ R ∧ i = .int .i64 k ∧ Below w.heap.size w wr ∧ ∀ q, q < k → lAt g.ls q = lAt g'.ls q) (fun _ _ _ i _ => R - (intOf i).toNat)
    case atStart => exact ⟨0, Nat.zero_le _, rfl, Below.refl _ _, fun q hq => by omega⟩
    case round =>
      obtain ⟨k, hk, rfl, hb, hall⟩ := hrel
      have HB := hide hb
      have HAll := hide hall
      clear hb hall
      by_cases hlt : k < R
      · have H1 := hide (H.out.later HB.out)
        have H2 := hide (H'.out.later HB.out)
        have b0 := H1.out.row hlt
        have b1 := H2.out.row hlt
        have l0 := H1.out.lines.lt
        have l1 := H2.out.lines.lt
        by_cases hq : lAt g.ls k = lAt g'.ls k
        · have HE : Hid (decide (lAt g.ls k = lAt g'.ls k) = true) := by unfold Hid; simpa using hq
          have HKQ := hide hq
          clear hq
          go_wp2_with fail
          refine (same6_any _ _ C C C' C' _ _ wr (H1.out.cels hlt) (H2.out.cels hlt) (H1.out.lenAt hlt) (H2.out.lenAt hlt) (by omega)).mono ?_
          rintro e k1 ⟨rfl, hb⟩
          rw [HE.out]
          have HB1 := hide (HB.out.trans (hb.mono HB.out.size))
          clear hb b0 b1 l0 l1
          go_wp2
          go_roundw
          case rel => exact ⟨k + 1, by omega, by go_num, HB1.out, fun q hq => by
            by_cases e : q = k
            · rw [e]; exact HKQ.out
            · exact HAll.out q (by omega)⟩
          case measure => simp [intOf]; omega
        · have HE : Hid (decide (lAt g.ls k = lAt g'.ls k) = false) := by unfold Hid; simpa using hq
          have HN : Hid (decide (g.ls = g'.ls) = false) := by
            unfold Hid
            rw [decide_eq_false_iff_not]
            intro e
            exact hq (by rw [e])
          clear hq
          go_wp2_with fail
          refine (same6_any _ _ C C C' C' _ _ wr (H1.out.cels hlt) (H2.out.cels hlt) (H1.out.lenAt hlt) (H2.out.lenAt hlt) (by omega)).mono ?_
          rintro e k1 ⟨rfl, hb⟩
          rw [HE.out]
          have HB1 := hide (HB.out.trans (hb.mono HB.out.size))
          clear hb b0 b1 l0 l1
          go_wp2
          go_ret
          exact ⟨ret_bool HN.out.symm, HB1.out⟩
      · have HY : Hid (decide (g.ls = g'.ls) = true) := by unfold Hid; exact HQ.out.2 fun i hi => HAll.out i (by omega)
        go_wp2
        go_ret
        exact ⟨ret_bool HY.out.symm, HB.out⟩
  · have e1 : ((R : Int) != (R' : Int)) = true := by simp; omega
    have HN : Hid (decide (g.ls = g'.ls) = false) := by
      unfold Hid
      rw [decide_eq_false_iff_not]
      intro e
      have := H.out.glen
      rw [e, H'.out.glen] at this
      exact hne this.symm
    clear hne
    go_enter Tryz.func61, Tryz.ntmps61
    go_wp2
    go_ret
    exact ⟨ret_bool HN.out.symm, Below.refl _ _⟩
/-- Are grids the same? -/
def sameG (a b : Gd) : Bool := decide (a.row = b.row ∧ a.col = b.col) && decide (a.ls = b.ls)
theorem sameG_iff (a b : Gd) : sameG a b = true ↔ a = b := by
  obtain ⟨l, r, c⟩ := a
  obtain ⟨l', r', c'⟩ := b
  simp only [sameG, Bool.and_eq_true, decide_eq_true_iff, Gd.mk.injEq]
  constructor
  · rintro ⟨⟨rfl, rfl⟩, rfl⟩; exact ⟨rfl, rfl, rfl⟩
  · rintro ⟨rfl, rfl, rfl⟩; exact ⟨⟨rfl, rfl⟩, rfl⟩
theorem sameG_self (a : Gd) : sameG a a = true := (sameG_iff a a).2 rfl
set_option maxHeartbeats 4000000 in
theorem gsame_any (h1 : Grd w G L M R C g) (h2 : Grd w G' L' M' R' C' g') (hR1 : R ≤ 512) (hR2 : R' ≤ 512) (hC1 : C ≤ 512) :
    Calls Tryz.prog 26 #[.pointer (some ⟨G, 0, none⟩), .pointer (some ⟨G', 0, none⟩)] w (Said (sameG g g') w) := by
  obtain ⟨cap, ps, room, more, h1⟩ := h1
  obtain ⟨cap', ps', room', more', h2⟩ := h2
  have H1 := hide h1
  have H2 := hide h2
  obtain ⟨c0, c1, c2, lG, -, -⟩ := h1.three
  obtain ⟨d0, d1, d2, lG', -, -⟩ := h2.three
  have eC := eqlCur
  by_cases hq : g.row = g'.row ∧ g.col = g'.col
  · have e1 : eqM (g.row : Int) (g.col : Int) (g'.row : Int) (g'.col : Int) = true := by unfold eqM; simp [hq.1, hq.2]
    have HS : Hid (sameG g g' = decide (g.ls = g'.ls)) := by unfold Hid sameG; simp [hq.1, hq.2]
    clear hq h1 h2
    go_enter Tryz.func26, Tryz.ntmps26
    go_wp2
    refine wp_region_chainL (fun w' => Below w.heap.size w w') 18 [(0, 0), (0, 4), (0, 1), (0, 2), (0, 5), (0, 6), (0, 3), (1, 7), (1, 8), (1, 9), (0, 10), (0, 14), (0, 11), (0, 12), (0, 15), (0, 16), (0, 13), (1, 17), (3, 18), (3, 19), (3, 20)] (by kernel_rfl) (by kernel_rfl) (by kernel_rfl) (fun _ _ _ _ _ h => h) ?_ ?_
    · exact (Below.refl _ _).drewN 1
    refine chainL_take (v := ?_) (by simp only [List.getElem?_toArray, List.getElem?_cons_zero]; rfl) (by rfl) (fun w hS => ?_) ?_
    rotate_left
    · go_simp <;> with_reducible rfl
    simp only [Act.put, List.setIfInBounds_toArray, List.set_cons_zero, List.set_cons_succ]
    refine chainL_take (v := ?_) (by simp only [List.getElem?_toArray, List.getElem?_cons_zero, List.getElem?_cons_succ]; rfl) (by rfl) (fun w hS => ?_) ?_
    rotate_left
    · go_simp <;> with_reducible rfl
    simp only [Act.put, List.setIfInBounds_toArray, List.set_cons_zero, List.set_cons_succ]
    refine chainL_take (v := ?_) (by simp only [List.getElem?_toArray, List.getElem?_cons_zero, List.getElem?_cons_succ]; rfl) (by rfl) (fun w hS => ?_) ?_
    rotate_left
    · go_simp <;> with_reducible rfl
    simp only [Act.put, List.setIfInBounds_toArray, List.set_cons_zero, List.set_cons_succ]
    refine chainL_take (v := ?_) (by simp only [List.getElem?_toArray, List.getElem?_cons_zero, List.getElem?_cons_succ]; rfl) (by rfl) (fun w hS => ?_) ?_
    rotate_left
    · go_simp <;> with_reducible rfl
    simp only [Act.put, List.setIfInBounds_toArray, List.set_cons_zero, List.set_cons_succ]
    refine chainL_take (v := ?_) (by simp only [List.getElem?_toArray, List.getElem?_cons_zero, List.getElem?_cons_succ]; rfl) (by rfl) (fun w hS => ?_) ?_
    rotate_left
    · go_simp <;> with_reducible rfl
    simp only [Act.put, List.setIfInBounds_toArray, List.set_cons_zero, List.set_cons_succ]
    refine chainL_take (v := ?_) (by simp only [List.getElem?_toArray, List.getElem?_cons_zero, List.getElem?_cons_succ]; rfl) (by rfl) (fun w hS => ?_) ?_
    rotate_left
    · go_simp <;> with_reducible rfl
    simp only [Act.put, List.setIfInBounds_toArray, List.set_cons_zero, List.set_cons_succ]
    refine chainL_take (v := ?_) (by simp only [List.getElem?_toArray, List.getElem?_cons_zero, List.getElem?_cons_succ]; rfl) (by rfl) (fun w hS => ?_) ?_
    rotate_left
    · obtain ⟨b0, b1, b2, -⟩ := (H1.out.later hS).three; go_simp <;> with_reducible rfl
    simp only [Act.put, List.setIfInBounds_toArray, List.set_cons_zero, List.set_cons_succ]
    refine chainL_alone (by simp only [List.getElem?_toArray, List.getElem?_cons_zero, List.getElem?_cons_succ]; rfl) ?_
    intro K hK
    go_wp2
    refine hK.out _ _ ((Below.refl _ _).drewN 1) ?_
    clear hK K
    refine chainL_alone (by simp only [List.getElem?_toArray, List.getElem?_cons_zero, List.getElem?_cons_succ]; rfl) ?_
    intro K hK
    go_wp2
    refine hK.out _ _ ((Below.refl _ _).drewN 1) ?_
    clear hK K
    refine chainL_alone (by simp only [List.getElem?_toArray, List.getElem?_cons_zero, List.getElem?_cons_succ]; rfl) ?_
    intro K hK
    go_wp2
    refine hK.out _ _ ((Below.refl _ _).drewN 1) ?_
    clear hK K
    refine chainL_take (v := ?_) (by simp only [List.getElem?_toArray, List.getElem?_cons_zero, List.getElem?_cons_succ]; rfl) (by rfl) (fun w hS => ?_) ?_
    rotate_left
    · go_simp <;> with_reducible rfl
    simp only [Act.put, List.setIfInBounds_toArray, List.set_cons_zero, List.set_cons_succ]
    refine chainL_take (v := ?_) (by simp only [List.getElem?_toArray, List.getElem?_cons_zero, List.getElem?_cons_succ]; rfl) (by rfl) (fun w hS => ?_) ?_
    rotate_left
    · go_simp <;> with_reducible rfl
    simp only [Act.put, List.setIfInBounds_toArray, List.set_cons_zero, List.set_cons_succ]
    refine chainL_take (v := ?_) (by simp only [List.getElem?_toArray, List.getElem?_cons_zero, List.getElem?_cons_succ]; rfl) (by rfl) (fun w hS => ?_) ?_
    rotate_left
    · go_simp <;> with_reducible rfl
    simp only [Act.put, List.setIfInBounds_toArray, List.set_cons_zero, List.set_cons_succ]
    refine chainL_take (v := ?_) (by simp only [List.getElem?_toArray, List.getElem?_cons_zero, List.getElem?_cons_succ]; rfl) (by rfl) (fun w hS => ?_) ?_
    rotate_left
    · go_simp <;> with_reducible rfl
    simp only [Act.put, List.setIfInBounds_toArray, List.set_cons_zero, List.set_cons_succ]
    refine chainL_take (v := ?_) (by simp only [List.getElem?_toArray, List.getElem?_cons_zero, List.getElem?_cons_succ]; rfl) (by rfl) (fun w hS => ?_) ?_
    rotate_left
    · go_simp <;> with_reducible rfl
    simp only [Act.put, List.setIfInBounds_toArray, List.set_cons_zero, List.set_cons_succ]
    refine chainL_take (v := ?_) (by simp only [List.getElem?_toArray, List.getElem?_cons_zero, List.getElem?_cons_succ]; rfl) (by rfl) (fun w hS => ?_) ?_
    rotate_left
    · go_simp <;> with_reducible rfl
    simp only [Act.put, List.setIfInBounds_toArray, List.set_cons_zero, List.set_cons_succ]
    refine chainL_take (v := ?_) (by simp only [List.getElem?_toArray, List.getElem?_cons_zero, List.getElem?_cons_succ]; rfl) (by rfl) (fun w hS => ?_) ?_
    rotate_left
    · obtain ⟨b0, b1, b2, -⟩ := (H1.out.later hS).three; go_simp <;> with_reducible rfl
    simp only [Act.put, List.setIfInBounds_toArray, List.set_cons_zero, List.set_cons_succ]
    refine chainL_alone (by simp only [List.getElem?_toArray, List.getElem?_cons_zero, List.getElem?_cons_succ]; rfl) ?_
    intro K hK
    go_wp2
    refine hK.out _ _ ((Below.refl _ _).drewN 1) ?_
    clear hK K
    refine chainL_late (by simp only [List.getElem?_toArray, List.getElem?_cons_zero, List.getElem?_cons_succ]; rfl) ?_
    intro K hK
    go_wp2_with fail
    refine (equalf_any (H1.out.later ((Below.refl _ _).drewN 1)) (H2.out.later ((Below.refl _ _).drewN 1)) hR1 hR2 hC1).mono ?_
    rintro e k1 ⟨rfl, hb⟩
    have Bk1 : Below w.heap.size w k1 := ((Below.refl w.heap.size w).drewN 1).trans hb
    clear hb
    go_wp2
    refine hK.out _ _ ?_
    clear hK K
    refine chainL_late (by simp only [List.getElem?_toArray, List.getElem?_cons_zero, List.getElem?_cons_succ]; rfl) ?_
    intro K hK
    go_wp2
    refine hK.out _ _ ?_
    clear hK K
    refine chainL_late (by simp only [List.getElem?_toArray, List.getElem?_cons_zero, List.getElem?_cons_succ]; rfl) ?_
    intro K hK
    go_wp2
    refine hK.out _ _ ?_
    clear hK K
    refine chainL_nil ?_
    have HB := hide Bk1
    clear Bk1
    go_wp2
    go_ret
    exact ⟨ret_bool HS.out.symm, HB.out⟩
  · have e1 : eqM (g.row : Int) (g.col : Int) (g'.row : Int) (g'.col : Int) = false := by
      unfold eqM
      rw [Bool.and_eq_false_iff]
      by_cases q : g.row = g'.row
      · right; simp; intro q2; exact hq ⟨q, by omega⟩
      · left; simp; omega
    have HS : Hid (sameG g g' = false) := by unfold Hid sameG; simp [hq]
    clear hq h1 h2
    go_enter Tryz.func26, Tryz.ntmps26
    go_wp2
    refine wp_region_chainH (fun w' => Below w.heap.size w w') [(true, 0), (true, 4), (true, 1), (true, 2), (true, 5), (true, 6), (true, 3), (false, 7), (false, 8), (false, 9), (true, 10), (true, 14), (true, 11), (true, 12), (true, 15), (true, 16), (true, 13), (false, 17), (false, 18), (false, 19), (false, 20)] (by kernel_rfl) (by kernel_rfl) (by kernel_rfl) (fun _ _ _ _ _ h => h) ?_ ?_
    · exact (Below.refl _ _).drewN 1
    refine chainH_take (v := ?_) (by simp only [List.getElem?_toArray, List.getElem?_cons_zero]; rfl) (by rfl) (fun w hS => ?_) ?_
    rotate_left
    · go_simp <;> with_reducible rfl
    simp only [Act.put, List.setIfInBounds_toArray, List.set_cons_zero, List.set_cons_succ]
    refine chainH_take (v := ?_) (by simp only [List.getElem?_toArray, List.getElem?_cons_zero, List.getElem?_cons_succ]; rfl) (by rfl) (fun w hS => ?_) ?_
    rotate_left
    · go_simp <;> with_reducible rfl
    simp only [Act.put, List.setIfInBounds_toArray, List.set_cons_zero, List.set_cons_succ]
    refine chainH_take (v := ?_) (by simp only [List.getElem?_toArray, List.getElem?_cons_zero, List.getElem?_cons_succ]; rfl) (by rfl) (fun w hS => ?_) ?_
    rotate_left
    · go_simp <;> with_reducible rfl
    simp only [Act.put, List.setIfInBounds_toArray, List.set_cons_zero, List.set_cons_succ]
    refine chainH_take (v := ?_) (by simp only [List.getElem?_toArray, List.getElem?_cons_zero, List.getElem?_cons_succ]; rfl) (by rfl) (fun w hS => ?_) ?_
    rotate_left
    · go_simp <;> with_reducible rfl
    simp only [Act.put, List.setIfInBounds_toArray, List.set_cons_zero, List.set_cons_succ]
    refine chainH_take (v := ?_) (by simp only [List.getElem?_toArray, List.getElem?_cons_zero, List.getElem?_cons_succ]; rfl) (by rfl) (fun w hS => ?_) ?_
    rotate_left
    · go_simp <;> with_reducible rfl
    simp only [Act.put, List.setIfInBounds_toArray, List.set_cons_zero, List.set_cons_succ]
    refine chainH_take (v := ?_) (by simp only [List.getElem?_toArray, List.getElem?_cons_zero, List.getElem?_cons_succ]; rfl) (by rfl) (fun w hS => ?_) ?_
    rotate_left
    · go_simp <;> with_reducible rfl
    simp only [Act.put, List.setIfInBounds_toArray, List.set_cons_zero, List.set_cons_succ]
    refine chainH_take (v := ?_) (by simp only [List.getElem?_toArray, List.getElem?_cons_zero, List.getElem?_cons_succ]; rfl) (by rfl) (fun w hS => ?_) ?_
    rotate_left
    · obtain ⟨b0, b1, b2, -⟩ := (H1.out.later hS).three; go_simp <;> with_reducible rfl
    simp only [Act.put, List.setIfInBounds_toArray, List.set_cons_zero, List.set_cons_succ]
    refine chainH_alone (by simp only [List.getElem?_toArray, List.getElem?_cons_zero, List.getElem?_cons_succ]; rfl) ?_
    intro K hK
    go_wp2
    refine hK.out _ _ ((Below.refl _ _).drewN 1) ?_
    clear hK K
    refine chainH_alone (by simp only [List.getElem?_toArray, List.getElem?_cons_zero, List.getElem?_cons_succ]; rfl) ?_
    intro K hK
    go_wp2
    refine hK.out _ _ ((Below.refl _ _).drewN 1) ?_
    clear hK K
    refine chainH_alone (by simp only [List.getElem?_toArray, List.getElem?_cons_zero, List.getElem?_cons_succ]; rfl) ?_
    intro K hK
    go_wp2
    refine hK.out _ _ ((Below.refl _ _).drewN 1) ?_
    clear hK K
    refine chainH_skip (by simp only [List.getElem?_toArray, List.getElem?_cons_zero, List.getElem?_cons_succ]; rfl) (by rfl) ?_
    simp only [Act.put, List.setIfInBounds_toArray, List.set_cons_zero, List.set_cons_succ]
    refine chainH_skip (by simp only [List.getElem?_toArray, List.getElem?_cons_zero, List.getElem?_cons_succ]; rfl) (by rfl) ?_
    simp only [Act.put, List.setIfInBounds_toArray, List.set_cons_zero, List.set_cons_succ]
    refine chainH_skip (by simp only [List.getElem?_toArray, List.getElem?_cons_zero, List.getElem?_cons_succ]; rfl) (by rfl) ?_
    simp only [Act.put, List.setIfInBounds_toArray, List.set_cons_zero, List.set_cons_succ]
    refine chainH_skip (by simp only [List.getElem?_toArray, List.getElem?_cons_zero, List.getElem?_cons_succ]; rfl) (by rfl) ?_
    simp only [Act.put, List.setIfInBounds_toArray, List.set_cons_zero, List.set_cons_succ]
    refine chainH_skip (by simp only [List.getElem?_toArray, List.getElem?_cons_zero, List.getElem?_cons_succ]; rfl) (by rfl) ?_
    simp only [Act.put, List.setIfInBounds_toArray, List.set_cons_zero, List.set_cons_succ]
    refine chainH_skip (by simp only [List.getElem?_toArray, List.getElem?_cons_zero, List.getElem?_cons_succ]; rfl) (by rfl) ?_
    simp only [Act.put, List.setIfInBounds_toArray, List.set_cons_zero, List.set_cons_succ]
    refine chainH_skip (by simp only [List.getElem?_toArray, List.getElem?_cons_zero, List.getElem?_cons_succ]; rfl) (by rfl) ?_
    simp only [Act.put, List.setIfInBounds_toArray, List.set_cons_zero, List.set_cons_succ]
    refine chainH_pass (by simp only [List.getElem?_toArray, List.getElem?_cons_zero, List.getElem?_cons_succ]; rfl) (by rfl) ((Below.refl _ _).drewN 1) ?_
    simp only [Act.put, List.setIfInBounds_toArray, List.set_cons_zero, List.set_cons_succ]
    refine chainH_pass (by simp only [List.getElem?_toArray, List.getElem?_cons_zero, List.getElem?_cons_succ]; rfl) (by rfl) ((Below.refl _ _).drewN 1) ?_
    simp only [Act.put, List.setIfInBounds_toArray, List.set_cons_zero, List.set_cons_succ]
    refine chainH_alone (by simp only [List.getElem?_toArray, List.getElem?_cons_zero, List.getElem?_cons_succ]; rfl) ?_
    intro K hK
    go_wp2
    refine hK.out _ _ ((Below.refl _ _).drewN 1) ?_
    clear hK K
    refine chainH_alone (by simp only [List.getElem?_toArray, List.getElem?_cons_zero, List.getElem?_cons_succ]; rfl) ?_
    intro K hK
    go_wp2
    refine hK.out _ _ ((Below.refl _ _).drewN 1) ?_
    clear hK K
    refine chainH_nil ?_
    go_wp2
    go_ret
    exact ⟨ret_bool HS.out.symm, (Below.refl _ _).drewN 1⟩
theorem gsame_nilR (G : Nat) (w : World) : Calls Tryz.prog 26 #[.pointer (some ⟨G, 0, none⟩), .pointer none] w fun e w' => e = .returned (.bool false) ∧ w = w' := by
  go_enter Tryz.func26, Tryz.ntmps26
  go_wp2
  go_ret
  exact ⟨rfl, rfl⟩
theorem gsame_nil2 (w : World) : Calls Tryz.prog 26 #[.pointer none, .pointer none] w fun e w' => e = .returned (.bool true) ∧ w = w' := by
  go_enter Tryz.func26, Tryz.ntmps26
  go_wp2
  go_ret
  exact ⟨rfl, rfl⟩

/-! ### right -/
theorem gright1_yes (A : Option Addr) (n c : Nat) (z : List Cel) (w : World) (h : Cels .i32 w A z) (hn : z.length = n) (hl : n ≤ 1000000) (hlb : LB z) (hS : Spans w) (hr : rightL z = true) : Calls Tryz.prog 51 #[.slice A n c] w (Said false w) := by
  have H := hide h
  have HN := hide hn
  have HL := hide hlb
  have HS := hide hS
  have HR := hide hr
  clear h hn hlb hS hr
  go_enter Tryz.func51, Tryz.ntmps51
  go_wp2_with fail
  refine (lright_any A n c z w H.out HN.out hl HL.out HS.out).mono ?_
  rintro e k1 ⟨rfl, hb⟩
  rw [HR.out]
  have HB := hide hb
  clear hb
  go_wp2
  go_ret
  exact ⟨rfl, HB.out⟩
set_option maxHeartbeats 1000000 in
theorem gindexf_yes (h : GridAt w G L M R C g cap ps room more) (hok : GOk g R C) (hS : Spans w) : Calls Tryz.prog 87 #[.slice (some ⟨L, 0, none⟩) R cap, .func (.func 51) #[] #[]] w (Num .i64 (-1) w) := by
  have H := hide h
  have HO := hide hok
  have HS := hide hS
  have hR := hok.r2
  have hC := hok.c2
  clear h hok hS
  go_enter Tryz.func87, Tryz.ntmps87
  go_wp2
  go_loopw [5, 8] (fun _ i wr => ∃ k : Nat, k ≤ R ∧ i = .int .i64 k ∧ Below w.heap.size w wr) (fun _ i _ => R - (intOf i).toNat)
  case atStart => exact ⟨0, Nat.zero_le _, rfl, Below.refl _ _⟩
  case round =>
    obtain ⟨k, hk, rfl, hb⟩ := hrel
    have HB := hide hb
    clear hb
    by_cases hlt : k < R
    · have H1 := hide (H.out.later HB.out)
      have b0 := H1.out.row hlt
      have l0 := H1.out.lines.lt
      go_wp2_with fail
      refine (gright1_yes _ C C _ wr (H1.out.cels hlt) (H1.out.lenAt hlt) (by omega) (HO.out.each k hlt).2.2 (HS.out.below HB.out) (HO.out.each k hlt).2.1).mono ?_
      rintro e k1 ⟨rfl, hb⟩
      have HB1 := hide (HB.out.trans (hb.mono HB.out.size))
      clear hb b0 l0
      go_wp2
      go_roundw
      case rel => exact ⟨k + 1, by omega, by go_num, HB1.out⟩
      case measure => simp [intOf]; omega
    · go_wp2
      go_ret
      exact ⟨rfl, HB.out⟩
theorem gright_yes (h : Grd w G L M R C g) (hok : GOk g R C) (hS : Spans w) : Calls Tryz.prog 12 #[.pointer (some ⟨G, 0, none⟩)] w (Said true w) := by
  obtain ⟨cap, ps, room, more, h⟩ := h
  obtain ⟨c0, c1, c2, lG, -, -⟩ := h.three
  have HC : Hid (Calls Tryz.prog 50 #[.slice (some ⟨L, 0, none⟩) R cap, .func (.func 51) #[] #[]] w (Said false w)) := by
    unfold Hid
    have HX := hide (gindexf_yes h hok hS)
    clear h hok hS c0 c1 c2 lG
    go_enter Tryz.func50, Tryz.ntmps50
    go_wp2_with fail
    refine HX.out.mono ?_
    rintro e k1 ⟨rfl, hb⟩
    have HB := hide hb
    clear hb
    go_wp2
    go_ret
    exact ⟨rfl, HB.out⟩
  clear h hok hS
  go_enter Tryz.func12, Tryz.ntmps12
  go_wp2_with fail
  refine HC.out.mono ?_
  rintro e k1 ⟨rfl, hb⟩
  have HB := hide hb
  clear hb c0 c1 c2 lG
  go_wp2
  go_ret
  exact ⟨rfl, HB.out⟩
theorem gright_nil (w : World) : Calls Tryz.prog 12 #[.pointer none] w fun e w' => e = .returned (.bool false) ∧ w = w' := by
  go_enter Tryz.func12, Tryz.ntmps12
  go_wp2
  go_ret
  exact ⟨rfl, rfl⟩

/-! ### a cell -/
set_option maxHeartbeats 2000000 in
theorem gat_yes (h : Grd w G L M R C g) (q j : Nat) (hq : q < R) (hj : j < C) (hC : C ≤ 512) (r m x : Int) (d f y b : Nat) (hc : cAt (lAt g.ls q) j = ⟨r, m, x, d, ⟨f, y, b⟩⟩) :
    Calls Tryz.prog 14 #[.pointer (some ⟨G, 0, none⟩), .int .i64 (q : Int), .int .i64 (j : Int)] w fun e w' => e = .returned (.tuple #[.agg #[.int .i32 r, .int .i32 m, .int .i32 x, .int .u8 (d : Int), .int .u8 (f : Int), .int .u8 (y : Int), .int .u8 (b : Int)], .bool true]) ∧ Below w.heap.size w w' := by
  obtain ⟨W0, hW0⟩ : ∃ W0, w.alloc (.cells #[.int .i32 0, .int .i32 0, .int .i32 0, .int .u8 (0 : Int), .int .u8 (0 : Int), .int .u8 (0 : Int), .int .u8 (0 : Int)] 40) = W0 := ⟨_, rfl⟩
  have HB : Hid (Below w.heap.size w W0) := by unfold Hid; rw [← hW0]; exact (Below.refl _ _).alloc (Nat.le_refl _) _
  have HX : Hid (Whole W0 w.heap.size 40 [.int .i32 0, .int .i32 0, .int .i32 0, .int .u8 (0 : Int), .int .u8 (0 : Int), .int .u8 (0 : Int), .int .u8 (0 : Int)]) := by unfold Hid; rw [← hW0]; exact Whole.new w 40 [.int .i32 0, .int .i32 0, .int .i32 0, .int .u8 (0 : Int), .int .u8 (0 : Int), .int .u8 (0 : Int), .int .u8 (0 : Int)]
  have HG := hide (h.later HB.out)
  have HW0 := hide hW0
  obtain ⟨cap, ps, room, more, ha⟩ := HG.out
  obtain ⟨c0, c1, c2, lG, lL, lM⟩ := ha.three
  have c3 := ha.row hq
  obtain ⟨a0, a1, a2, a3, a4, a5, a6, -⟩ := (ha.cels hq).sevenC j (by rw [ha.lenAt hq]; exact hj) hc
  obtain ⟨z0, z1, z2, z3, z4, z5, z6, lz⟩ := cells7 HX.out
  have hz := HX.out.frozen
  clear hW0 h ha hc
  go_enter Tryz.func14, Tryz.ntmps14
  go_wp2_with fail
  rw [HW0.out]
  refine (has_any HG.out q).mono ?_
  rintro e w1 ⟨rfl, rfl⟩
  rw [hasG_in hq]
  go_wp2
  refine ret72 Tryz.results14 (.inl rfl) rfl rfl rfl (put7 HX.out _ _ _ _ _ _ _) ⟨rfl, below_put7 HB.out (Nat.le_refl _) _ _ _ _ _ _ _⟩
theorem gat_no (h : Grd w G L M R C g) (r c : Int) (hno : ¬ (hasG R r ∧ 0 ≤ c ∧ c < (C : Int))) :
    Calls Tryz.prog 14 #[.pointer (some ⟨G, 0, none⟩), .int .i64 r, .int .i64 c] w fun e w' => e = .returned (.tuple #[.agg #[.int .i32 0, .int .i32 0, .int .i32 0, .int .u8 (0 : Int), .int .u8 (0 : Int), .int .u8 (0 : Int), .int .u8 (0 : Int)], .bool false]) ∧ Below w.heap.size w w' := by
  obtain ⟨W0, hW0⟩ : ∃ W0, w.alloc (.cells #[.int .i32 0, .int .i32 0, .int .i32 0, .int .u8 (0 : Int), .int .u8 (0 : Int), .int .u8 (0 : Int), .int .u8 (0 : Int)] 40) = W0 := ⟨_, rfl⟩
  have HB : Hid (Below w.heap.size w W0) := by unfold Hid; rw [← hW0]; exact (Below.refl _ _).alloc (Nat.le_refl _) _
  have HX : Hid (Whole W0 w.heap.size 40 [.int .i32 0, .int .i32 0, .int .i32 0, .int .u8 (0 : Int), .int .u8 (0 : Int), .int .u8 (0 : Int), .int .u8 (0 : Int)]) := by unfold Hid; rw [← hW0]; exact Whole.new w 40 [.int .i32 0, .int .i32 0, .int .i32 0, .int .u8 (0 : Int), .int .u8 (0 : Int), .int .u8 (0 : Int), .int .u8 (0 : Int)]
  have HG := hide (h.later HB.out)
  have HW0 := hide hW0
  obtain ⟨z0, z1, z2, z3, z4, z5, z6, lz⟩ := cells7 HX.out
  have hz := HX.out.frozen
  clear hW0 h
  by_cases hr : hasG R r
  · obtain ⟨q, hq⟩ : ∃ q : Nat, r = (q : Int) := ⟨r.toNat, by unfold hasG at hr; omega⟩
    subst hq
    have hqR : q < R := by unfold hasG at hr; omega
    obtain ⟨cap, ps, room, more, ha⟩ := HG.out
    obtain ⟨c0, c1, c2, lG, lL, lM⟩ := ha.three
    have c3 := ha.row hqR
    clear ha
    by_cases h0 : c < 0
    · clear hno hr
      go_enter Tryz.func14, Tryz.ntmps14
      go_wp2_with fail
      rw [HW0.out]
      refine (has_any HG.out q).mono ?_
      rintro e w1 ⟨rfl, rfl⟩
      rw [hasG_in hqR]
      go_wp2
      refine ret72 Tryz.results14 (.inl rfl) rfl rfl rfl (put7 HX.out _ _ _ _ _ _ _) ⟨rfl, below_put7 HB.out (Nat.le_refl _) _ _ _ _ _ _ _⟩
    · have h1 : (C : Int) ≤ c := by have : ¬ (0 ≤ c ∧ c < (C : Int)) := fun q => hno ⟨hr, q⟩; omega
      clear hno hr
      go_enter Tryz.func14, Tryz.ntmps14
      go_wp2_with fail
      rw [HW0.out]
      refine (has_any HG.out q).mono ?_
      rintro e w1 ⟨rfl, rfl⟩
      rw [hasG_in hqR]
      go_wp2
      refine ret72 Tryz.results14 (.inl rfl) rfl rfl rfl (put7 HX.out _ _ _ _ _ _ _) ⟨rfl, below_put7 HB.out (Nat.le_refl _) _ _ _ _ _ _ _⟩
  · have HD : Hid (decide (hasG R r) = false) := by unfold Hid; simp [hr]
    clear hno hr
    go_enter Tryz.func14, Tryz.ntmps14
    go_wp2_with fail
    rw [HW0.out]
    refine (has_any HG.out r).mono ?_
    rintro e w1 ⟨rfl, rfl⟩
    rw [HD.out]
    go_wp2
    refine ret72 Tryz.results14 (.inl rfl) rfl rfl rfl (put7 HX.out _ _ _ _ _ _ _) ⟨rfl, below_put7 HB.out (Nat.le_refl _) _ _ _ _ _ _ _⟩
theorem gat_nil (r c : Int) (w : World) : Calls Tryz.prog 14 #[.pointer none, .int .i64 r, .int .i64 c] w fun e w' => e = .returned (.tuple #[.agg #[.int .i32 0, .int .i32 0, .int .i32 0, .int .u8 (0 : Int), .int .u8 (0 : Int), .int .u8 (0 : Int), .int .u8 (0 : Int)], .bool false]) ∧ Below w.heap.size w w' := by
  obtain ⟨W0, hW0⟩ : ∃ W0, w.alloc (.cells #[.int .i32 0, .int .i32 0, .int .i32 0, .int .u8 (0 : Int), .int .u8 (0 : Int), .int .u8 (0 : Int), .int .u8 (0 : Int)] 40) = W0 := ⟨_, rfl⟩
  have HB : Hid (Below w.heap.size w W0) := by unfold Hid; rw [← hW0]; exact (Below.refl _ _).alloc (Nat.le_refl _) _
  have HX : Hid (Whole W0 w.heap.size 40 [.int .i32 0, .int .i32 0, .int .i32 0, .int .u8 (0 : Int), .int .u8 (0 : Int), .int .u8 (0 : Int), .int .u8 (0 : Int)]) := by unfold Hid; rw [← hW0]; exact Whole.new w 40 [.int .i32 0, .int .i32 0, .int .i32 0, .int .u8 (0 : Int), .int .u8 (0 : Int), .int .u8 (0 : Int), .int .u8 (0 : Int)]
  have HW0 := hide hW0
  obtain ⟨z0, z1, z2, z3, z4, z5, z6, lz⟩ := cells7 HX.out
  have hz := HX.out.frozen
  clear hW0
  go_enter Tryz.func14, Tryz.ntmps14
  go_wp2_with fail
  rw [HW0.out]
  refine (has_nil r W0).mono ?_
  rintro e w1 ⟨rfl, rfl⟩
  go_wp2
  refine ret72 Tryz.results14 (.inl rfl) rfl rfl rfl (put7 HX.out _ _ _ _ _ _ _) ⟨rfl, below_put7 HB.out (Nat.le_refl _) _ _ _ _ _ _ _⟩
end
end Go.Proofs.YtiifeniijcnahaaGreatDoor
