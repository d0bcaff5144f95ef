/-
  Contracts: a cell of a grid, whether grids are the same, whether a grid is right, rows scrolled (the program's).
  Contracts of the small functions: which numbers are scalars, a scalar's bytes (the document's), the order of bytes.
  Contracts of the document's own answers: the order of bytes, the search, beginnings.
  Contracts: how many bytes fit, the scalar of whole ones.
-/
import Derived.Test.YtkijclgbpbhglaaGreatDoorQa11
import Derived.Test.YtkijclgbpbhglaaGreatDoorQa3
import Derived.Test.YtkijclgbpbhglaaGreatDoorRows
import Derived.Test.YtkijclgbpbhglaaGreatDoorQa1
import Derived.Test.YtkijclgbpbhglaaGreatDoorQa7
import Derived.WalkMore
import Derived.Laws.BitsAllLaws
namespace Go.Proofs.YtkijclgbpbhglaaGreatDoor
set_option maxRecDepth 100000
open Go.ChangeShapes Go.WideShapes Go.ChangeAt Go.RowKit
set_option linter.unusedVariables false

/-! ### scrolled -/
section
variable {w : World} {G L M R C : Nat} {g : Gd}
theorem scroll_any (h : Grd w G L M R C g) (hR : 1 ≤ R) (hR2 : R ≤ 512) (hC : 1 ≤ C) (hC2 : C ≤ 512) (hS : Spans w) (n : Int) (f y b : Nat) :
    Calls Tryz.prog 148 #[.pointer (some ⟨G, 0, none⟩), .int .i64 n, .agg #[.int .u8 (f : Int), .int .u8 (y : Int), .int .u8 (b : Int)]] w (Scrolled R C (scrollG g C n ⟨f, y, b⟩) w G L M) := by
  by_cases hp : rightN ⟨f, y, b⟩ = true
  · obtain ⟨c, hc⟩ : ∃ c, clampI n R = c := ⟨_, rfl⟩
    have h1 : -(R : Int) ≤ c ∧ c ≤ (R : Int) := by rw [← hc]; unfold clampI; omega
    by_cases h0 : 0 ≤ c
    · exact scroll_up h hR hR2 hC hC2 hS n f y b hp c.toNat _ (by omega) rfl (by rw [hc]; omega)
    · exact scroll_down h hR hR2 hC hC2 hS n f y b hp (-c).toNat _ (by omega) rfl (by omega) (by rw [hc]; omega)
  · obtain ⟨W0, hW0⟩ : ∃ W0, w.alloc (.cells #[.int .u8 (f : Int), .int .u8 (y : Int), .int .u8 (b : Int)] 65) = W0 := ⟨_, rfl⟩
    have HB0 : Hid (Below w.heap.size w W0) := by unfold Hid; rw [← hW0]; exact (Below.refl _ _).alloc (Nat.le_refl _) _
    have HP0 : Hid (Whole W0 w.heap.size 65 [.int .u8 (f : Int), .int .u8 (y : Int), .int .u8 (b : Int)]) := by unfold Hid; rw [← hW0]; exact Whole.new w 65 [.int .u8 (f : Int), .int .u8 (y : Int), .int .u8 (b : Int)]
    have HE : Hid (scrollG g C n ⟨f, y, b⟩ = g) := by unfold Hid scrollG; rw [if_neg hp]
    have HPR : Hid (rightN ⟨f, y, b⟩ = false) := by unfold Hid; simpa using hp
    have HG := hide h
    have HW0 := hide hW0
    obtain ⟨a0, a1, a2, lP⟩ := cells3 HP0.out
    clear hW0 h hp hS
    go_enter Tryz.func148, Tryz.ntmps148
    go_wp2_with fail
    rw [HW0.out]
    refine (right_any f y b W0).mono ?_
    rintro e W1 ⟨rfl, hb⟩
    rw [HPR.out]
    have HB := hide (HB0.out.trans (hb.mono HB0.out.size))
    clear a0 a1 a2 lP hb
    go_wp2
    exact bodyPost_ret (v := .tuple #[]) (by simp [results, Tryz.results148]) rfl ⟨rfl, L, by rw [HE.out]; exact HG.out.later HB.out, Trn.of_below HB.out, .inl rfl⟩
end

/-! ### the same -/
theorem fieldsCur : fieldsAre Tryz.prog 111 [(false, 3, 0), (false, 3, 1)] := by unfold fieldsAre; kernel_rfl
theorem eqlCur (m n m' n' : Int) (w : World) : (binOp .eql 111 (.agg #[.int .i64 m, .int .i64 n]) (.agg #[.int .i64 m', .int .i64 n'])).run Tryz.prog w = .ok (.bool (eqM m n m' n')) w := by
  rw [run_eql_struct, run_equalIn_agg w 9999 111 _ _ Tryz.underlying111 Tryz.stoodInHeld111]
  have h3 := fieldsCur
  unfold fieldsAre at h3
  generalize (Tryz.prog.fieldsOf 111).toList = fs at h3
  have hl : fs.length = 2 := by have := congrArg List.length h3; simpa using this
  match fs, hl with
  | [f0, f1], _ =>
    simp only [List.map_cons, List.map_nil, List.cons.injEq, Prod.mk.injEq, beq_eq_false_iff_ne, ne_eq, and_true] at h3
    obtain ⟨⟨n0, t0, o0⟩, n1, t1, o1⟩ := h3
    simp only [Op.eqFields, n0, n1, t0, t1, o0, o1, ne_eq, not_false_eq_true, if_true, Sem.run_bind, part3 #[Value.int .i64 m, .int .i64 n] 0 m rfl, part3 #[Value.int .i64 m, .int .i64 n] 1 n rfl,
      part3 #[Value.int .i64 m', .int .i64 n'] 0 m' rfl, part3 #[Value.int .i64 m', .int .i64 n'] 1 n' rfl, Result.andThen_ok, run_equalIn_int w _ 3 .i64 .i64 _ _ Tryz.underlying3, Sem.run_ite, Sem.run_pure]
    unfold eqM
    cases hf : m == m' <;> cases hg : n == n' <;> simp
section
variable {w : World} {G L M R C G' L' M' R' C' : Nat} {g g' : Gd} {cap cap' : Nat} {ps ps' : Nat → Nat} {room room' : List Cel} {more more' : List Value}
theorem ls_eq {a b : List (List Cel)} {n : Nat} (ha : a.length = n) (hb : b.length = n) : decide (a = b) = true ↔ ∀ i, i < n → lAt a i = lAt b i := by
  rw [decide_eq_true_iff]
  constructor
  · rintro rfl i _; rfl
  · intro h
    rw [← gtab_self a, ← gtab_self b, ha, hb]
    exact gtab_eq h
set_option maxHeartbeats 2000000 in
theorem equalf_any (h : GridAt w G L M R C g cap ps room more) (h' : GridAt w G' L' M' R' C' g' cap' ps' room' more') (hR : R ≤ 512) (hR' : R' ≤ 512) (hC : C ≤ 512) :
    Calls Tryz.prog 60 #[.slice (some ⟨L, 0, none⟩) R cap, .slice (some ⟨L', 0, none⟩) R' cap', .func (.func 61) #[] #[]] w (Said (decide (g.ls = g'.ls)) w) := by
  have H := hide h
  have H' := hide h'
  clear h h'
  by_cases hne : R = R'
  · subst hne
    have HQ := hide (ls_eq H.out.glen H'.out.glen)
    go_enter Tryz.func60, Tryz.ntmps60
    go_wp2
    go_loopw [7, 8, 9, 17] (fun _ _ _ i wr => ∃ k : Nat, k ≤ R ∧ i = .int .i64 k ∧ Below w.heap.size w wr ∧ ∀ q, q < k → lAt g.ls q = lAt g'.ls q) (fun _ _ _ i _ => R - (intOf i).toNat)
    case atStart => exact ⟨0, Nat.zero_le _, rfl, Below.refl _ _, fun q hq => by omega⟩
    case round =>
      obtain ⟨k, hk, rfl, hb, hall⟩ := hrel
      have HB := hide hb
      have HAll := hide hall
      clear hb hall
      by_cases hlt : k < R
      · have H1 := hide (H.out.later HB.out)
        have H2 := hide (H'.out.later HB.out)
        have b0 := H1.out.row hlt
        have b1 := H2.out.row hlt
        have l0 := H1.out.lines.lt
        have l1 := H2.out.lines.lt
        by_cases hq : lAt g.ls k = lAt g'.ls k
        · have HE : Hid (decide (lAt g.ls k = lAt g'.ls k) = true) := by unfold Hid; simpa using hq
          have HKQ := hide hq
          clear hq
          go_wp2_with fail
          refine (same6_any _ _ C C C' C' _ _ wr (H1.out.cels hlt) (H2.out.cels hlt) (H1.out.lenAt hlt) (H2.out.lenAt hlt) (by omega)).mono ?_
          rintro e k1 ⟨rfl, hb⟩
          rw [HE.out]
          have HB1 := hide (HB.out.trans (hb.mono HB.out.size))
          clear hb b0 b1 l0 l1
          go_wp2
          go_roundw
          case rel => exact ⟨k + 1, by omega, by go_num, HB1.out, fun q hq => by
            by_cases e : q = k
            · rw [e]; exact HKQ.out
            · exact HAll.out q (by omega)⟩
          case measure => simp [intOf]; omega
        · have HE : Hid (decide (lAt g.ls k = lAt g'.ls k) = false) := by unfold Hid; simpa using hq
          have HN : Hid (decide (g.ls = g'.ls) = false) := by
            unfold Hid
            rw [decide_eq_false_iff_not]
            intro e
            exact hq (by rw [e])
          clear hq
          go_wp2_with fail
          refine (same6_any _ _ C C C' C' _ _ wr (H1.out.cels hlt) (H2.out.cels hlt) (H1.out.lenAt hlt) (H2.out.lenAt hlt) (by omega)).mono ?_
          rintro e k1 ⟨rfl, hb⟩
          rw [HE.out]
          have HB1 := hide (HB.out.trans (hb.mono HB.out.size))
          clear hb b0 b1 l0 l1
          go_wp2
          go_ret
          exact ⟨ret_bool HN.out.symm, HB1.out⟩
      · have HY : Hid (decide (g.ls = g'.ls) = true) := by unfold Hid; exact HQ.out.2 fun i hi => HAll.out i (by omega)
        go_wp2
        go_ret
        exact ⟨ret_bool HY.out.symm, HB.out⟩
  · have e1 : ((R : Int) != (R' : Int)) = true := by simp; omega
    have HN : Hid (decide (g.ls = g'.ls) = false) := by
      unfold Hid
      rw [decide_eq_false_iff_not]
      intro e
      have := H.out.glen
      rw [e, H'.out.glen] at this
      exact hne this.symm
    clear hne
    go_enter Tryz.func60, Tryz.ntmps60
    go_wp2
    go_ret
    exact ⟨ret_bool HN.out.symm, Below.refl _ _⟩
/-- Are grids the same? -/
def sameG (a b : Gd) : Bool := decide (a.row = b.row ∧ a.col = b.col) && decide (a.ls = b.ls)
theorem sameG_iff (a b : Gd) : sameG a b = true ↔ a = b := by
  obtain ⟨l, r, c⟩ := a
  obtain ⟨l', r', c'⟩ := b
  simp only [sameG, Bool.and_eq_true, decide_eq_true_iff, Gd.mk.injEq]
  constructor
  · rintro ⟨⟨rfl, rfl⟩, rfl⟩; exact ⟨rfl, rfl, rfl⟩
  · rintro ⟨rfl, rfl, rfl⟩; exact ⟨⟨rfl, rfl⟩, rfl⟩
theorem sameG_self (a : Gd) : sameG a a = true := (sameG_iff a a).2 rfl
set_option maxHeartbeats 4000000 in
theorem gsame_any (h1 : Grd w G L M R C g) (h2 : Grd w G' L' M' R' C' g') (hR1 : R ≤ 512) (hR2 : R' ≤ 512) (hC1 : C ≤ 512) :
    Calls Tryz.prog 24 #[.pointer (some ⟨G, 0, none⟩), .pointer (some ⟨G', 0, none⟩)] w (Said (sameG g g') w) := by
  obtain ⟨cap, ps, room, more, h1⟩ := h1
  obtain ⟨cap', ps', room', more', h2⟩ := h2
  have H1 := hide h1
  have H2 := hide h2
  obtain ⟨c0, c1, c2, lG, -, -⟩ := h1.three
  obtain ⟨d0, d1, d2, lG', -, -⟩ := h2.three
  have eC := eqlCur
  by_cases hq : g.row = g'.row ∧ g.col = g'.col
  · have e1 : eqM (g.row : Int) (g.col : Int) (g'.row : Int) (g'.col : Int) = true := by unfold eqM; simp [hq.1, hq.2]
    have HS : Hid (sameG g g' = decide (g.ls = g'.ls)) := by unfold Hid sameG; simp [hq.1, hq.2]
    clear hq h1 h2
    go_enter Tryz.func24, Tryz.ntmps24
    go_wp2
    refine wp_region_chainL (fun w' => Below w.heap.size w w') 18 [(0, 0), (0, 4), (0, 1), (0, 2), (0, 5), (0, 6), (0, 3), (1, 7), (1, 8), (1, 9), (0, 10), (0, 14), (0, 11), (0, 12), (0, 15), (0, 16), (0, 13), (1, 17), (3, 18), (3, 19), (3, 20)] (by kernel_rfl) (by kernel_rfl) (by kernel_rfl) (fun _ _ _ _ _ h => h) ?_ ?_
    · exact (Below.refl _ _).drewN 1
    refine chainL_take (v := ?_) (by simp only [List.getElem?_toArray, List.getElem?_cons_zero]; rfl) (by rfl) (fun w hS => ?_) ?_
    rotate_left
    · go_simp <;> with_reducible rfl
    simp only [Act.put, List.setIfInBounds_toArray, List.set_cons_zero, List.set_cons_succ]
    refine chainL_take (v := ?_) (by simp only [List.getElem?_toArray, List.getElem?_cons_zero, List.getElem?_cons_succ]; rfl) (by rfl) (fun w hS => ?_) ?_
    rotate_left
    · go_simp <;> with_reducible rfl
    simp only [Act.put, List.setIfInBounds_toArray, List.set_cons_zero, List.set_cons_succ]
    refine chainL_take (v := ?_) (by simp only [List.getElem?_toArray, List.getElem?_cons_zero, List.getElem?_cons_succ]; rfl) (by rfl) (fun w hS => ?_) ?_
    rotate_left
    · go_simp <;> with_reducible rfl
    simp only [Act.put, List.setIfInBounds_toArray, List.set_cons_zero, List.set_cons_succ]
    refine chainL_take (v := ?_) (by simp only [List.getElem?_toArray, List.getElem?_cons_zero, List.getElem?_cons_succ]; rfl) (by rfl) (fun w hS => ?_) ?_
    rotate_left
    · go_simp <;> with_reducible rfl
    simp only [Act.put, List.setIfInBounds_toArray, List.set_cons_zero, List.set_cons_succ]
    refine chainL_take (v := ?_) (by simp only [List.getElem?_toArray, List.getElem?_cons_zero, List.getElem?_cons_succ]; rfl) (by rfl) (fun w hS => ?_) ?_
    rotate_left
    · go_simp <;> with_reducible rfl
    simp only [Act.put, List.setIfInBounds_toArray, List.set_cons_zero, List.set_cons_succ]
    refine chainL_take (v := ?_) (by simp only [List.getElem?_toArray, List.getElem?_cons_zero, List.getElem?_cons_succ]; rfl) (by rfl) (fun w hS => ?_) ?_
    rotate_left
    · go_simp <;> with_reducible rfl
    simp only [Act.put, List.setIfInBounds_toArray, List.set_cons_zero, List.set_cons_succ]
    refine chainL_take (v := ?_) (by simp only [List.getElem?_toArray, List.getElem?_cons_zero, List.getElem?_cons_succ]; rfl) (by rfl) (fun w hS => ?_) ?_
    rotate_left
    · obtain ⟨b0, b1, b2, -⟩ := (H1.out.later hS).three; go_simp <;> with_reducible rfl
    simp only [Act.put, List.setIfInBounds_toArray, List.set_cons_zero, List.set_cons_succ]
    refine chainL_alone (by simp only [List.getElem?_toArray, List.getElem?_cons_zero, List.getElem?_cons_succ]; rfl) ?_
    intro K hK
    go_wp2
    refine hK.out _ _ ((Below.refl _ _).drewN 1) ?_
    clear hK K
    refine chainL_alone (by simp only [List.getElem?_toArray, List.getElem?_cons_zero, List.getElem?_cons_succ]; rfl) ?_
    intro K hK
    go_wp2
    refine hK.out _ _ ((Below.refl _ _).drewN 1) ?_
    clear hK K
    refine chainL_alone (by simp only [List.getElem?_toArray, List.getElem?_cons_zero, List.getElem?_cons_succ]; rfl) ?_
    intro K hK
    go_wp2
    refine hK.out _ _ ((Below.refl _ _).drewN 1) ?_
    clear hK K
    refine chainL_take (v := ?_) (by simp only [List.getElem?_toArray, List.getElem?_cons_zero, List.getElem?_cons_succ]; rfl) (by rfl) (fun w hS => ?_) ?_
    rotate_left
    · go_simp <;> with_reducible rfl
    simp only [Act.put, List.setIfInBounds_toArray, List.set_cons_zero, List.set_cons_succ]
    refine chainL_take (v := ?_) (by simp only [List.getElem?_toArray, List.getElem?_cons_zero, List.getElem?_cons_succ]; rfl) (by rfl) (fun w hS => ?_) ?_
    rotate_left
    · go_simp <;> with_reducible rfl
    simp only [Act.put, List.setIfInBounds_toArray, List.set_cons_zero, List.set_cons_succ]
    refine chainL_take (v := ?_) (by simp only [List.getElem?_toArray, List.getElem?_cons_zero, List.getElem?_cons_succ]; rfl) (by rfl) (fun w hS => ?_) ?_
    rotate_left
    · go_simp <;> with_reducible rfl
    simp only [Act.put, List.setIfInBounds_toArray, List.set_cons_zero, List.set_cons_succ]
    refine chainL_take (v := ?_) (by simp only [List.getElem?_toArray, List.getElem?_cons_zero, List.getElem?_cons_succ]; rfl) (by rfl) (fun w hS => ?_) ?_
    rotate_left
    · go_simp <;> with_reducible rfl
    simp only [Act.put, List.setIfInBounds_toArray, List.set_cons_zero, List.set_cons_succ]
    refine chainL_take (v := ?_) (by simp only [List.getElem?_toArray, List.getElem?_cons_zero, List.getElem?_cons_succ]; rfl) (by rfl) (fun w hS => ?_) ?_
    rotate_left
    · go_simp <;> with_reducible rfl
    simp only [Act.put, List.setIfInBounds_toArray, List.set_cons_zero, List.set_cons_succ]
    refine chainL_take (v := ?_) (by simp only [List.getElem?_toArray, List.getElem?_cons_zero, List.getElem?_cons_succ]; rfl) (by rfl) (fun w hS => ?_) ?_
    rotate_left
    · go_simp <;> with_reducible rfl
    simp only [Act.put, List.setIfInBounds_toArray, List.set_cons_zero, List.set_cons_succ]
    refine chainL_take (v := ?_) (by simp only [List.getElem?_toArray, List.getElem?_cons_zero, List.getElem?_cons_succ]; rfl) (by rfl) (fun w hS => ?_) ?_
    rotate_left
    · obtain ⟨b0, b1, b2, -⟩ := (H1.out.later hS).three; go_simp <;> with_reducible rfl
    simp only [Act.put, List.setIfInBounds_toArray, List.set_cons_zero, List.set_cons_succ]
    refine chainL_alone (by simp only [List.getElem?_toArray, List.getElem?_cons_zero, List.getElem?_cons_succ]; rfl) ?_
    intro K hK
    go_wp2
    refine hK.out _ _ ((Below.refl _ _).drewN 1) ?_
    clear hK K
    refine chainL_late (by simp only [List.getElem?_toArray, List.getElem?_cons_zero, List.getElem?_cons_succ]; rfl) ?_
    intro K hK
    go_wp2_with fail
    refine (equalf_any (H1.out.later ((Below.refl _ _).drewN 1)) (H2.out.later ((Below.refl _ _).drewN 1)) hR1 hR2 hC1).mono ?_
    rintro e k1 ⟨rfl, hb⟩
    have Bk1 : Below w.heap.size w k1 := ((Below.refl w.heap.size w).drewN 1).trans hb
    clear hb
    go_wp2
    refine hK.out _ _ ?_
    clear hK K
    refine chainL_late (by simp only [List.getElem?_toArray, List.getElem?_cons_zero, List.getElem?_cons_succ]; rfl) ?_
    intro K hK
    go_wp2
    refine hK.out _ _ ?_
    clear hK K
    refine chainL_late (by simp only [List.getElem?_toArray, List.getElem?_cons_zero, List.getElem?_cons_succ]; rfl) ?_
    intro K hK
    go_wp2
    refine hK.out _ _ ?_
    clear hK K
    refine chainL_nil ?_
    have HB := hide Bk1
    clear Bk1
    go_wp2
    go_ret
    exact ⟨ret_bool HS.out.symm, HB.out⟩
  · have e1 : eqM (g.row : Int) (g.col : Int) (g'.row : Int) (g'.col : Int) = false := by
      unfold eqM
      rw [Bool.and_eq_false_iff]
      by_cases q : g.row = g'.row
      · right; simp; intro q2; exact hq ⟨q, by omega⟩
      · left; simp; omega
    have HS : Hid (sameG g g' = false) := by unfold Hid sameG; simp [hq]
    clear hq h1 h2
    go_enter Tryz.func24, Tryz.ntmps24
    go_wp2
    refine wp_region_chainH (fun w' => Below w.heap.size w w') [(true, 0), (true, 4), (true, 1), (true, 2), (true, 5), (true, 6), (true, 3), (false, 7), (false, 8), (false, 9), (true, 10), (true, 14), (true, 11), (true, 12), (true, 15), (true, 16), (true, 13), (false, 17), (false, 18), (false, 19), (false, 20)] (by kernel_rfl) (by kernel_rfl) (by kernel_rfl) (fun _ _ _ _ _ h => h) ?_ ?_
    · exact (Below.refl _ _).drewN 1
    refine chainH_take (v := ?_) (by simp only [List.getElem?_toArray, List.getElem?_cons_zero]; rfl) (by rfl) (fun w hS => ?_) ?_
    rotate_left
    · go_simp <;> with_reducible rfl
    simp only [Act.put, List.setIfInBounds_toArray, List.set_cons_zero, List.set_cons_succ]
    refine chainH_take (v := ?_) (by simp only [List.getElem?_toArray, List.getElem?_cons_zero, List.getElem?_cons_succ]; rfl) (by rfl) (fun w hS => ?_) ?_
    rotate_left
    · go_simp <;> with_reducible rfl
    simp only [Act.put, List.setIfInBounds_toArray, List.set_cons_zero, List.set_cons_succ]
    refine chainH_take (v := ?_) (by simp only [List.getElem?_toArray, List.getElem?_cons_zero, List.getElem?_cons_succ]; rfl) (by rfl) (fun w hS => ?_) ?_
    rotate_left
    · go_simp <;> with_reducible rfl
    simp only [Act.put, List.setIfInBounds_toArray, List.set_cons_zero, List.set_cons_succ]
    refine chainH_take (v := ?_) (by simp only [List.getElem?_toArray, List.getElem?_cons_zero, List.getElem?_cons_succ]; rfl) (by rfl) (fun w hS => ?_) ?_
    rotate_left
    · go_simp <;> with_reducible rfl
    simp only [Act.put, List.setIfInBounds_toArray, List.set_cons_zero, List.set_cons_succ]
    refine chainH_take (v := ?_) (by simp only [List.getElem?_toArray, List.getElem?_cons_zero, List.getElem?_cons_succ]; rfl) (by rfl) (fun w hS => ?_) ?_
    rotate_left
    · go_simp <;> with_reducible rfl
    simp only [Act.put, List.setIfInBounds_toArray, List.set_cons_zero, List.set_cons_succ]
    refine chainH_take (v := ?_) (by simp only [List.getElem?_toArray, List.getElem?_cons_zero, List.getElem?_cons_succ]; rfl) (by rfl) (fun w hS => ?_) ?_
    rotate_left
    · go_simp <;> with_reducible rfl
    simp only [Act.put, List.setIfInBounds_toArray, List.set_cons_zero, List.set_cons_succ]
    refine chainH_take (v := ?_) (by simp only [List.getElem?_toArray, List.getElem?_cons_zero, List.getElem?_cons_succ]; rfl) (by rfl) (fun w hS => ?_) ?_
    rotate_left
    · obtain ⟨b0, b1, b2, -⟩ := (H1.out.later hS).three; go_simp <;> with_reducible rfl
    simp only [Act.put, List.setIfInBounds_toArray, List.set_cons_zero, List.set_cons_succ]
    refine chainH_alone (by simp only [List.getElem?_toArray, List.getElem?_cons_zero, List.getElem?_cons_succ]; rfl) ?_
    intro K hK
    go_wp2
    refine hK.out _ _ ((Below.refl _ _).drewN 1) ?_
    clear hK K
    refine chainH_alone (by simp only [List.getElem?_toArray, List.getElem?_cons_zero, List.getElem?_cons_succ]; rfl) ?_
    intro K hK
    go_wp2
    refine hK.out _ _ ((Below.refl _ _).drewN 1) ?_
    clear hK K
    refine chainH_alone (by simp only [List.getElem?_toArray, List.getElem?_cons_zero, List.getElem?_cons_succ]; rfl) ?_
    intro K hK
    go_wp2
    refine hK.out _ _ ((Below.refl _ _).drewN 1) ?_
    clear hK K
    refine chainH_skip (by simp only [List.getElem?_toArray, List.getElem?_cons_zero, List.getElem?_cons_succ]; rfl) (by rfl) ?_
    simp only [Act.put, List.setIfInBounds_toArray, List.set_cons_zero, List.set_cons_succ]
    refine chainH_skip (by simp only [List.getElem?_toArray, List.getElem?_cons_zero, List.getElem?_cons_succ]; rfl) (by rfl) ?_
    simp only [Act.put, List.setIfInBounds_toArray, List.set_cons_zero, List.set_cons_succ]
    refine chainH_skip (by simp only [List.getElem?_toArray, List.getElem?_cons_zero, List.getElem?_cons_succ]; rfl) (by rfl) ?_
    simp only [Act.put, List.setIfInBounds_toArray, List.set_cons_zero, List.set_cons_succ]
    refine chainH_skip (by simp only [List.getElem?_toArray, List.getElem?_cons_zero, List.getElem?_cons_succ]; rfl) (by rfl) ?_
    simp only [Act.put, List.setIfInBounds_toArray, List.set_cons_zero, List.set_cons_succ]
    refine chainH_skip (by simp only [List.getElem?_toArray, List.getElem?_cons_zero, List.getElem?_cons_succ]; rfl) (by rfl) ?_
    simp only [Act.put, List.setIfInBounds_toArray, List.set_cons_zero, List.set_cons_succ]
    refine chainH_skip (by simp only [List.getElem?_toArray, List.getElem?_cons_zero, List.getElem?_cons_succ]; rfl) (by rfl) ?_
    simp only [Act.put, List.setIfInBounds_toArray, List.set_cons_zero, List.set_cons_succ]
    refine chainH_skip (by simp only [List.getElem?_toArray, List.getElem?_cons_zero, List.getElem?_cons_succ]; rfl) (by rfl) ?_
    simp only [Act.put, List.setIfInBounds_toArray, List.set_cons_zero, List.set_cons_succ]
    refine chainH_pass (by simp only [List.getElem?_toArray, List.getElem?_cons_zero, List.getElem?_cons_succ]; rfl) (by rfl) ((Below.refl _ _).drewN 1) ?_
    simp only [Act.put, List.setIfInBounds_toArray, List.set_cons_zero, List.set_cons_succ]
    refine chainH_pass (by simp only [List.getElem?_toArray, List.getElem?_cons_zero, List.getElem?_cons_succ]; rfl) (by rfl) ((Below.refl _ _).drewN 1) ?_
    simp only [Act.put, List.setIfInBounds_toArray, List.set_cons_zero, List.set_cons_succ]
    refine chainH_alone (by simp only [List.getElem?_toArray, List.getElem?_cons_zero, List.getElem?_cons_succ]; rfl) ?_
    intro K hK
    go_wp2
    refine hK.out _ _ ((Below.refl _ _).drewN 1) ?_
    clear hK K
    refine chainH_alone (by simp only [List.getElem?_toArray, List.getElem?_cons_zero, List.getElem?_cons_succ]; rfl) ?_
    intro K hK
    go_wp2
    refine hK.out _ _ ((Below.refl _ _).drewN 1) ?_
    clear hK K
    refine chainH_nil ?_
    go_wp2
    go_ret
    exact ⟨ret_bool HS.out.symm, (Below.refl _ _).drewN 1⟩
/-! ### right -/
theorem gright1_yes (A : Option Addr) (n c : Nat) (z : List Cel) (w : World) (h : Cels .i32 w A z) (hn : z.length = n) (hl : n ≤ 1000000) (hlb : LB z) (hS : Spans w) (hr : rightL z = true) : Calls Tryz.prog 48 #[.slice A n c] w (Said false w) := by
  have H := hide h
  have HN := hide hn
  have HL := hide hlb
  have HS := hide hS
  have HR := hide hr
  clear h hn hlb hS hr
  go_enter Tryz.func48, Tryz.ntmps48
  go_wp2_with fail
  refine (lright_any A n c z w H.out HN.out hl HL.out HS.out).mono ?_
  rintro e k1 ⟨rfl, hb⟩
  rw [HR.out]
  have HB := hide hb
  clear hb
  go_wp2
  go_ret
  exact ⟨rfl, HB.out⟩
set_option maxHeartbeats 1000000 in
theorem gindexf_yes (h : GridAt w G L M R C g cap ps room more) (hok : GOk g R C) (hS : Spans w) : Calls Tryz.prog 90 #[.slice (some ⟨L, 0, none⟩) R cap, .func (.func 48) #[] #[]] w (Num .i64 (-1) w) := by
  have H := hide h
  have HO := hide hok
  have HS := hide hS
  have hR := hok.r2
  have hC := hok.c2
  clear h hok hS
  go_enter Tryz.func90, Tryz.ntmps90
  go_wp2
  go_loopw [5, 8] (fun _ i wr => ∃ k : Nat, k ≤ R ∧ i = .int .i64 k ∧ Below w.heap.size w wr) (fun _ i _ => R - (intOf i).toNat)
  case atStart => exact ⟨0, Nat.zero_le _, rfl, Below.refl _ _⟩
  case round =>
    obtain ⟨k, hk, rfl, hb⟩ := hrel
    have HB := hide hb
    clear hb
    by_cases hlt : k < R
    · have H1 := hide (H.out.later HB.out)
      have b0 := H1.out.row hlt
      have l0 := H1.out.lines.lt
      go_wp2_with fail
      refine (gright1_yes _ C C _ wr (H1.out.cels hlt) (H1.out.lenAt hlt) (by omega) (HO.out.each k hlt).2.2 (HS.out.below HB.out) (HO.out.each k hlt).2.1).mono ?_
      rintro e k1 ⟨rfl, hb⟩
      have HB1 := hide (HB.out.trans (hb.mono HB.out.size))
      clear hb b0 l0
      go_wp2
      go_roundw
      case rel => exact ⟨k + 1, by omega, by go_num, HB1.out⟩
      case measure => simp [intOf]; omega
    · go_wp2
      go_ret
      exact ⟨rfl, HB.out⟩
theorem gright_yes (h : Grd w G L M R C g) (hok : GOk g R C) (hS : Spans w) : Calls Tryz.prog 19 #[.pointer (some ⟨G, 0, none⟩)] w (Said true w) := by
  obtain ⟨cap, ps, room, more, h⟩ := h
  obtain ⟨c0, c1, c2, lG, -, -⟩ := h.three
  have HC : Hid (Calls Tryz.prog 47 #[.slice (some ⟨L, 0, none⟩) R cap, .func (.func 48) #[] #[]] w (Said false w)) := by
    unfold Hid
    have HX := hide (gindexf_yes h hok hS)
    clear h hok hS c0 c1 c2 lG
    go_enter Tryz.func47, Tryz.ntmps47
    go_wp2_with fail
    refine HX.out.mono ?_
    rintro e k1 ⟨rfl, hb⟩
    have HB := hide hb
    clear hb
    go_wp2
    go_ret
    exact ⟨rfl, HB.out⟩
  clear h hok hS
  go_enter Tryz.func19, Tryz.ntmps19
  go_wp2_with fail
  refine HC.out.mono ?_
  rintro e k1 ⟨rfl, hb⟩
  have HB := hide hb
  clear hb c0 c1 c2 lG
  go_wp2
  go_ret
  exact ⟨rfl, HB.out⟩
/-! ### a cell -/
set_option maxHeartbeats 2000000 in
theorem gat_yes (h : Grd w G L M R C g) (q j : Nat) (hq : q < R) (hj : j < C) (hC : C ≤ 512) (r m x : Int) (d f y b : Nat) (hc : cAt (lAt g.ls q) j = ⟨r, m, x, d, ⟨f, y, b⟩⟩) :
    Calls Tryz.prog 31 #[.pointer (some ⟨G, 0, none⟩), .int .i64 (q : Int), .int .i64 (j : Int)] w fun e w' => e = .returned (.tuple #[.agg #[.int .i32 r, .int .i32 m, .int .i32 x, .int .u8 (d : Int), .int .u8 (f : Int), .int .u8 (y : Int), .int .u8 (b : Int)], .bool true]) ∧ Below w.heap.size w w' := by
  obtain ⟨W0, hW0⟩ : ∃ W0, w.alloc (.cells #[.int .i32 0, .int .i32 0, .int .i32 0, .int .u8 (0 : Int), .int .u8 (0 : Int), .int .u8 (0 : Int), .int .u8 (0 : Int)] 73) = W0 := ⟨_, rfl⟩
  have HB : Hid (Below w.heap.size w W0) := by unfold Hid; rw [← hW0]; exact (Below.refl _ _).alloc (Nat.le_refl _) _
  have HX : Hid (Whole W0 w.heap.size 73 [.int .i32 0, .int .i32 0, .int .i32 0, .int .u8 (0 : Int), .int .u8 (0 : Int), .int .u8 (0 : Int), .int .u8 (0 : Int)]) := by unfold Hid; rw [← hW0]; exact Whole.new w 73 [.int .i32 0, .int .i32 0, .int .i32 0, .int .u8 (0 : Int), .int .u8 (0 : Int), .int .u8 (0 : Int), .int .u8 (0 : Int)]
  have HG := hide (h.later HB.out)
  have HW0 := hide hW0
  obtain ⟨cap, ps, room, more, ha⟩ := HG.out
  obtain ⟨c0, c1, c2, lG, lL, lM⟩ := ha.three
  have c3 := ha.row hq
  obtain ⟨a0, a1, a2, a3, a4, a5, a6, -⟩ := (ha.cels hq).sevenC j (by rw [ha.lenAt hq]; exact hj) hc
  obtain ⟨z0, z1, z2, z3, z4, z5, z6, lz⟩ := cells7 HX.out
  have hz := HX.out.frozen
  clear hW0 h ha hc
  go_enter Tryz.func31, Tryz.ntmps31
  go_wp2_with fail
  rw [HW0.out]
  refine (has_any HG.out q).mono ?_
  rintro e w1 ⟨rfl, rfl⟩
  rw [hasG_in hq]
  go_wp2
  refine ret72 Tryz.results31 (.inl rfl) rfl rfl rfl (put7 HX.out _ _ _ _ _ _ _) ⟨rfl, below_put7 HB.out (Nat.le_refl _) _ _ _ _ _ _ _⟩
theorem gat_no (h : Grd w G L M R C g) (r c : Int) (hno : ¬ (hasG R r ∧ 0 ≤ c ∧ c < (C : Int))) :
    Calls Tryz.prog 31 #[.pointer (some ⟨G, 0, none⟩), .int .i64 r, .int .i64 c] w fun e w' => e = .returned (.tuple #[.agg #[.int .i32 0, .int .i32 0, .int .i32 0, .int .u8 (0 : Int), .int .u8 (0 : Int), .int .u8 (0 : Int), .int .u8 (0 : Int)], .bool false]) ∧ Below w.heap.size w w' := by
  obtain ⟨W0, hW0⟩ : ∃ W0, w.alloc (.cells #[.int .i32 0, .int .i32 0, .int .i32 0, .int .u8 (0 : Int), .int .u8 (0 : Int), .int .u8 (0 : Int), .int .u8 (0 : Int)] 73) = W0 := ⟨_, rfl⟩
  have HB : Hid (Below w.heap.size w W0) := by unfold Hid; rw [← hW0]; exact (Below.refl _ _).alloc (Nat.le_refl _) _
  have HX : Hid (Whole W0 w.heap.size 73 [.int .i32 0, .int .i32 0, .int .i32 0, .int .u8 (0 : Int), .int .u8 (0 : Int), .int .u8 (0 : Int), .int .u8 (0 : Int)]) := by unfold Hid; rw [← hW0]; exact Whole.new w 73 [.int .i32 0, .int .i32 0, .int .i32 0, .int .u8 (0 : Int), .int .u8 (0 : Int), .int .u8 (0 : Int), .int .u8 (0 : Int)]
  have HG := hide (h.later HB.out)
  have HW0 := hide hW0
  obtain ⟨z0, z1, z2, z3, z4, z5, z6, lz⟩ := cells7 HX.out
  have hz := HX.out.frozen
  clear hW0 h
  by_cases hr : hasG R r
  · obtain ⟨q, hq⟩ : ∃ q : Nat, r = (q : Int) := ⟨r.toNat, by unfold hasG at hr; omega⟩
    subst hq
    have hqR : q < R := by unfold hasG at hr; omega
    obtain ⟨cap, ps, room, more, ha⟩ := HG.out
    obtain ⟨c0, c1, c2, lG, lL, lM⟩ := ha.three
    have c3 := ha.row hqR
    clear ha
    by_cases h0 : c < 0
    · clear hno hr
      go_enter Tryz.func31, Tryz.ntmps31
      go_wp2_with fail
      rw [HW0.out]
      refine (has_any HG.out q).mono ?_
      rintro e w1 ⟨rfl, rfl⟩
      rw [hasG_in hqR]
      go_wp2
      refine ret72 Tryz.results31 (.inl rfl) rfl rfl rfl (put7 HX.out _ _ _ _ _ _ _) ⟨rfl, below_put7 HB.out (Nat.le_refl _) _ _ _ _ _ _ _⟩
    · have h1 : (C : Int) ≤ c := by have : ¬ (0 ≤ c ∧ c < (C : Int)) := fun q => hno ⟨hr, q⟩; omega
      clear hno hr
      go_enter Tryz.func31, Tryz.ntmps31
      go_wp2_with fail
      rw [HW0.out]
      refine (has_any HG.out q).mono ?_
      rintro e w1 ⟨rfl, rfl⟩
      rw [hasG_in hqR]
      go_wp2
      refine ret72 Tryz.results31 (.inl rfl) rfl rfl rfl (put7 HX.out _ _ _ _ _ _ _) ⟨rfl, below_put7 HB.out (Nat.le_refl _) _ _ _ _ _ _ _⟩
  · have HD : Hid (decide (hasG R r) = false) := by unfold Hid; simp [hr]
    clear hno hr
    go_enter Tryz.func31, Tryz.ntmps31
    go_wp2_with fail
    rw [HW0.out]
    refine (has_any HG.out r).mono ?_
    rintro e w1 ⟨rfl, rfl⟩
    rw [HD.out]
    go_wp2
    refine ret72 Tryz.results31 (.inl rfl) rfl rfl rfl (put7 HX.out _ _ _ _ _ _ _) ⟨rfl, below_put7 HB.out (Nat.le_refl _) _ _ _ _ _ _ _⟩
end
end Go.Proofs.YtkijclgbpbhglaaGreatDoor

namespace Go.Proofs.YtkijclgbpbhglaaGreatDoor
set_option maxRecDepth 100000
open Go.ChangeShapes Go.WideShapes Go.ChangeAt Go.RowKit
set_option linter.unusedVariables false

theorem info5 : (Tryz.prog.info? 5).map (fun i => (i.zero, i.size, i.bytes)) = some (some (.int .u8 0), 1, 1) := by kernel_rfl
theorem elemBytes : Elem Tryz.prog 34 5 .u8 1 := ⟨Tryz.underlying34, info5⟩
theorem elemRunes : Elem Tryz.prog 129 21 .i32 4 := ⟨Tryz.underlying129, info21⟩
theorem elemInts : Elem Tryz.prog 33 3 .i64 8 := ⟨Tryz.underlying33, info3⟩

end Go.Proofs.YtkijclgbpbhglaaGreatDoor

namespace Go.Proofs.YtkijclgbpbhglaaGreatDoor
set_option maxRecDepth 100000
open Go.ChangeShapes Go.WideShapes Go.ChangeAt Go.RowKit
set_option linter.unusedVariables false

set_option maxHeartbeats 400000 in
theorem tail_any (r : Int) (w : World) (h0 : 0 ≤ r) (h1 : r ≤ 1114111) : Calls Tryz.prog 166 #[.int .i32 r] w fun e w' => e = .returned (.int .u8 (128 + r % 64)) ∧ w = w' := by
  go_enter Tryz.func166, Tryz.ntmps166
  go_wp2
  go_ret
  exact ⟨rfl, rfl⟩

set_option maxHeartbeats 400000 in
theorem size_any (c : Int) (w : World) (h0 : 0 ≤ c) (h1 : c ≤ 255) : Calls Tryz.prog 203 #[.int .u8 c] w fun e w' => e = .returned (.int .i64 (sz c)) ∧ w = w' := by
  rcases sz_inv c with ⟨g1, e⟩ | ⟨g1, g2, e⟩ | ⟨g1, g2, e⟩ | ⟨g1, g2, e⟩ | ⟨g1, g2, e⟩ | ⟨g1, e⟩
  all_goals
    have E := hide e
    clear e
    go_enter Tryz.func203, Tryz.ntmps203
    go_wp2
    try (exfalso; omega)
    go_ret
    exact ⟨ret_int (by rw [E.out]; rfl), rfl⟩

set_option maxHeartbeats 400000 in
theorem seconds_any (c : Int) (w : World) (h0 : 0 ≤ c) (h1 : c ≤ 255) : Calls Tryz.prog 212 #[.int .u8 c] w fun e w' => e = .returned (.tuple #[.int .u8 (lo2 c), .int .u8 (hi2 c)]) ∧ w = w' := by
  by_cases g1 : c = 224
  · subst g1
    go_enter Tryz.func212, Tryz.ntmps212
    go_wp2_with (go_at_call 166; refine (tail_any _ _ (by omega) (by omega)).mono ?_; rintro e w' ⟨rfl, rfl⟩)
    go_ret2
    exact ⟨rfl, rfl⟩
  by_cases g2 : c = 237
  · subst g2
    go_enter Tryz.func212, Tryz.ntmps212
    go_wp2_with (go_at_call 166; refine (tail_any _ _ (by omega) (by omega)).mono ?_; rintro e w' ⟨rfl, rfl⟩)
    go_ret2
    exact ⟨rfl, rfl⟩
  by_cases g3 : c = 240
  · subst g3
    go_enter Tryz.func212, Tryz.ntmps212
    go_wp2_with (go_at_call 166; refine (tail_any _ _ (by omega) (by omega)).mono ?_; rintro e w' ⟨rfl, rfl⟩)
    go_ret2
    exact ⟨rfl, rfl⟩
  by_cases g4 : c = 244
  · subst g4
    go_enter Tryz.func212, Tryz.ntmps212
    go_wp2_with (go_at_call 166; refine (tail_any _ _ (by omega) (by omega)).mono ?_; rintro e w' ⟨rfl, rfl⟩)
    go_ret2
    exact ⟨rfl, rfl⟩
  · have q1 : (c == 224) = false := by simp [g1]
    have q2 : (c == 237) = false := by simp [g2]
    have q3 : (c == 240) = false := by simp [g3]
    have q4 : (c == 244) = false := by simp [g4]
    have E : Hid (lo2 c = 128 ∧ hi2 c = 191) := by unfold Hid lo2 hi2; rw [if_neg g1, if_neg g3, if_neg g2, if_neg g4]; exact ⟨rfl, rfl⟩
    clear g1 g2 g3 g4
    go_enter Tryz.func212, Tryz.ntmps212
    go_wp2
    go_ret2
    exact ⟨by rw [E.out.1, E.out.2]; rfl, rfl⟩

def FitRel (a : Int) (r : List Int) (S t : Nat) (l h i : Value) : Prop := ∃ (lo hi : Int) (k : Nat), l = .int .u8 lo ∧ h = .int .u8 hi ∧ i = .int .i64 k ∧ k ≤ t ∧ run lo hi (S - k) ((a :: r).drop k) + k = fit (a :: r)

set_option maxHeartbeats 1000000 in
theorem fitting_any (A : Option Addr) (n c : Nat) (a : Int) (r : List Int) (w : World) (hb : Ints .u8 w A (a :: r)) (hn : (a :: r).length = n) (hl : n ≤ 1000000) (hy : Byte (a :: r)) :
    Calls Tryz.prog 204 #[.slice A n c, .int .i64 (sz a)] w fun e w' => e = .returned (.int .i64 (fit (a :: r))) ∧ w = w' := by
  obtain ⟨B, off, rfl, c0, hB⟩ := hb.at (i := 0) (by simp)
  simp only [List.getD_cons_zero, Nat.add_zero] at c0
  have ha := hy a (by simp)
  obtain ⟨a0, a1⟩ := ha
  have hn0 : 0 < n := by rw [← hn]; simp
  have hf := fit_sz a r
  have hs4 := sz_le a
  obtain ⟨S, hS⟩ : ∃ S, sz a = S := ⟨_, rfl⟩
  rw [hS] at hf hs4 ⊢
  have HN := hide hn
  clear hn
  by_cases hz : S = 0
  · have HF : Hid (fit (a :: r) = 0) := fit_zero (by rw [hS]; exact hz)
    subst hz
    clear hS hf hs4
    have hm : min (0 : Int) (n : Int) = 0 := by omega
    go_enter Tryz.func204, Tryz.ntmps204
    go_wp2_with fail
    refine (seconds_any a w a0 a1).mono ?_
    rintro e w' ⟨rfl, rfl⟩
    go_wp2
    go_loop [5, 6, 7] (fun l h i => i = .int .i64 0) (fun _ _ i => 0)
    case atStart => rfl
    case round =>
      subst hrel
      go_wp2
      go_ret
      exact ⟨ret_int (by rw [HF.out]; rfl), rfl⟩
  · have HF : Hid (fit (a :: r) = 1 + run (lo2 a) (hi2 a) (S - 1) r) := by have := fit_pos (c := a) (r := r) (by rw [hS]; exact hz); rw [hS] at this; exact this
    clear hS
    have hlo := lo2_inv a
    have hhi := hi2_inv a
    have hlo' : 0 ≤ lo2 a ∧ lo2 a ≤ 255 := by omega
    have hhi' : 0 ≤ hi2 a ∧ hi2 a ≤ 255 := by omega
    clear hlo hhi
    obtain ⟨t, ht, htS, htn, hcase⟩ : ∃ t : Nat, min (S : Int) (n : Int) = (t : Int) ∧ t ≤ S ∧ t ≤ n ∧ (t = S ∨ t = n) := ⟨min S n, by omega, by omega, by omega, by omega⟩
    have HC := hide hcase
    have ht1 : 1 ≤ t := by omega
    clear hcase
    by_cases hS1 : S = 1
    · subst hS1
      go_enter Tryz.func204, Tryz.ntmps204
      go_wp2_with fail
      refine (seconds_any a w a0 a1).mono ?_
      rintro e w' ⟨rfl, rfl⟩
      go_wp2
      go_loop [5, 6, 7] (fun l h i => FitRel a r 1 t l h i) (fun _ _ i => t - (intOf i).toNat)
      case atStart => exact ⟨lo2 a, hi2 a, 1, rfl, rfl, (by first | rfl | (congr 1; omega)), by omega, by rw [HF.out]; simp only [List.drop_succ_cons, List.drop_zero]; omega⟩
      case round =>
        obtain ⟨lo, hi, k, rfl, rfl, rfl, hk, hrun⟩ := hrel
        have HR := hide hrun
        clear hrun
        by_cases hlt : k < t
        · obtain ⟨B2, off2, q, hc, _⟩ := hb.at (i := k) (by rw [HN.out]; omega)
          cases q
          obtain ⟨u, hu, hu2⟩ := getD_byte (a :: r) hy k (by rw [HN.out]; omega)
          have HD := hide (drop_at (a :: r) k u (by rw [HN.out]; omega) hu)
          rw [hu] at hc
          clear hu
          have hkn : k < n := by omega
          by_cases h1 : lo ≤ (u : Int)
          · by_cases h2 : (u : Int) ≤ hi
            · have HE : Hid (run 128 191 (1 - (k + 1)) ((a :: r).drop (k + 1)) + (k + 1) = fit (a :: r)) := by
                unfold Hid
                rw [← HR.out, HD.out, show 1 - k = (1 - (k + 1)) + 1 by omega, run_yes ⟨h1, h2⟩]
                omega
              go_wp2
              all_goals
                go_round
                case rel => exact ⟨128, 191, k + 1, rfl, rfl, by go_num, by omega, HE.out⟩
                case measure => simp [intOf]; omega
            · have h2' : decide ((u : Int) ≤ hi) = false := by simp; omega
              have HE : Hid (fit (a :: r) = k) := by
                unfold Hid
                rw [← HR.out, HD.out, show 1 - k = (1 - (k + 1)) + 1 by omega, run_no (by omega)]
                omega
              go_wp2
              all_goals (go_ret; exact ⟨ret_int (by rw [HE.out]), rfl⟩)
          · have h1' : decide (lo ≤ (u : Int)) = false := by simp; omega
            have HE : Hid (fit (a :: r) = k) := by
              unfold Hid
              rw [← HR.out, HD.out, show 1 - k = (1 - (k + 1)) + 1 by omega, run_no (by omega)]
              omega
            go_wp2
            all_goals (go_ret; exact ⟨ret_int (by rw [HE.out]), rfl⟩)
        · have HE : Hid (fit (a :: r) = k) := by
            unfold Hid
            rw [← HR.out]
            rcases HC.out with h | h
            · rw [show 1 - k = 0 by omega, run_zero]; omega
            · rw [List.drop_eq_nil_of_le (by rw [HN.out]; omega), run_nil]; omega
          have hge : decide (k < t) = false := by simp; omega
          go_wp2
          all_goals (go_ret; exact ⟨ret_int (by rw [HE.out]), rfl⟩)
    · have hS2 : (1 : Int) < (S : Int) := by omega
      go_enter Tryz.func204, Tryz.ntmps204
      go_wp2_with fail
      refine (seconds_any a w a0 a1).mono ?_
      rintro e w' ⟨rfl, rfl⟩
      go_wp2
      go_loop [5, 6, 7] (fun l h i => FitRel a r S t l h i) (fun _ _ i => t - (intOf i).toNat)
      case atStart => exact ⟨lo2 a, hi2 a, 1, rfl, rfl, (by first | rfl | (congr 1; omega)), by omega, by rw [HF.out]; simp only [List.drop_succ_cons, List.drop_zero]; omega⟩
      case round =>
        obtain ⟨lo, hi, k, rfl, rfl, rfl, hk, hrun⟩ := hrel
        have HR := hide hrun
        clear hrun
        by_cases hlt : k < t
        · obtain ⟨B2, off2, q, hc, _⟩ := hb.at (i := k) (by rw [HN.out]; omega)
          cases q
          obtain ⟨u, hu, hu2⟩ := getD_byte (a :: r) hy k (by rw [HN.out]; omega)
          have HD := hide (drop_at (a :: r) k u (by rw [HN.out]; omega) hu)
          rw [hu] at hc
          clear hu
          have hkn : k < n := by omega
          by_cases h1 : lo ≤ (u : Int)
          · by_cases h2 : (u : Int) ≤ hi
            · have HE : Hid (run 128 191 (S - (k + 1)) ((a :: r).drop (k + 1)) + (k + 1) = fit (a :: r)) := by
                unfold Hid
                rw [← HR.out, HD.out, show S - k = (S - (k + 1)) + 1 by omega, run_yes ⟨h1, h2⟩]
                omega
              go_wp2
              all_goals
                go_round
                case rel => exact ⟨128, 191, k + 1, rfl, rfl, by go_num, by omega, HE.out⟩
                case measure => simp [intOf]; omega
            · have h2' : decide ((u : Int) ≤ hi) = false := by simp; omega
              have HE : Hid (fit (a :: r) = k) := by
                unfold Hid
                rw [← HR.out, HD.out, show S - k = (S - (k + 1)) + 1 by omega, run_no (by omega)]
                omega
              go_wp2
              all_goals (go_ret; exact ⟨ret_int (by rw [HE.out]), rfl⟩)
          · have h1' : decide (lo ≤ (u : Int)) = false := by simp; omega
            have HE : Hid (fit (a :: r) = k) := by
              unfold Hid
              rw [← HR.out, HD.out, show S - k = (S - (k + 1)) + 1 by omega, run_no (by omega)]
              omega
            go_wp2
            all_goals (go_ret; exact ⟨ret_int (by rw [HE.out]), rfl⟩)
        · have HE : Hid (fit (a :: r) = k) := by
            unfold Hid
            rw [← HR.out]
            rcases HC.out with h | h
            · rw [show S - k = 0 by omega, run_zero]; omega
            · rw [List.drop_eq_nil_of_le (by rw [HN.out]; omega), run_nil]; omega
          have hge : decide (k < t) = false := by simp; omega
          go_wp2
          all_goals (go_ret; exact ⟨ret_int (by rw [HE.out]), rfl⟩)
end Go.Proofs.YtkijclgbpbhglaaGreatDoor
