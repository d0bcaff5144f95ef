/-
  A region that leaves its order open, walked in one order, under a fact S on the worlds: some operations are taken early (each yields its value in every world that meets S), the others come up alone, and S is shown behind each. Of no program.
  Contract: may a cell be, by the program.
  Contract: may a cell be, by the document.
  Contract: the chapter's examples.
  Contract: a cell with a mark more, by the document.
  Rows of rows of numbers that a call makes and appends to, of no program.
  Contracts: a cell's runes (both).
  Contract: a cell's runes, by the document.
  Numbers that came in: a uint8 as a natural number, an int within its bounds. Of no program.
  The contracts once more, their answers spelled out, as the laws' walks want them; what is of 32 bits stays so.
-/
import Derived.Test.YtkijclgbpbhglaaGreatDoorQa3
import Derived.Deep.RegionHeld
import Derived.Test.YtkijclgbpbhglaaGreatDoorQa1
namespace Go.Proofs.YtkijclgbpbhglaaGreatDoor
set_option maxRecDepth 100000
open Go.RowKit

/-- '(true, i)': number i is taken early. '(false, i)': it comes up alone. -/
def wpChainH (P : Program) (ops : Array Oper) (Q : Exit → Act → World → Prop) (S : World → Prop) : List (Bool × Nat) → Act → World → Prop
  | [], a, w => Q .normal a w
  | (true, i) :: r, a, w => match ops[i]? with
    | some o => ∃ v, YieldsIf P ops S o v a ∧ wpChainH P ops Q S r (a.put o.dst v) w
    | none => False
  | (false, i) :: r, a, w => match ops[i]? with
    | some o => ∀ K : Act → World → Prop, (∀ a w, S w → wpChainH P ops Q S r a w → K a w) → wpList P ops (Exit.then K Q) [o] a w
    | none => False

def chainOkH (ops : Array Oper) : List (Bool × Nat) → Array Bool → Bool
  | [], listed => (Region.ready .any ops listed).isEmpty
  | (true, i) :: r, listed => Region.free .any ops listed i && (Region.ready .any ops listed).contains i && chainOkH ops r (listed.setIfInBounds i true)
  | (false, i) :: r, listed => (Region.ready .any ops listed == [i]) && chainOkH ops r (listed.setIfInBounds i true)

section
variable {P : Program} {ops : Array Oper} {Q : Exit → Act → World → Prop} {S : World → Prop}

theorem any_of_chainH (hs : Region.noSelect ops = true) (hQ : ∀ c (d : Tmp) v a w, Q (.panic c) (Act.put a (some d) v) w → Q (.panic c) a w) :
    ∀ (l : List (Bool × Nat)) (listed : Array Bool) (a : Act) (w : World), chainOkH ops l listed = true → S w → wpChainH P ops Q S l a w → wpAnyH P .any ops Q S l.length listed a w := by
  intro l
  induction l with
  | nil =>
    intro listed a w hok _ h
    exact wpAnyH_done (by simpa [chainOkH] using hok) h 0
  | cons x r ih =>
    obtain ⟨b, i⟩ := x
    intro listed a w hok hS h
    cases b with
    | true =>
      simp only [chainOkH, Bool.and_eq_true] at hok
      obtain ⟨⟨hf, hr⟩, hok⟩ := hok
      have hmem : i ∈ Region.ready .any ops listed := by simpa using hr
      obtain ⟨_, o, ho, _⟩ := mem_ready.1 hmem
      simp only [wpChainH, ho] at h
      obtain ⟨v, hy, h⟩ := h
      refine wpAnyH_take ho hs hf hr (fun c a w hh => ?_) hy hS (ih _ _ _ hok hS h)
      cases hd : o.dst with
      | none => rw [hd] at hh; exact hh
      | some d => rw [hd] at hh; exact hQ c d v a w hh
    | false =>
      simp only [chainOkH, Bool.and_eq_true, beq_iff_eq] at hok
      obtain ⟨hr, hok⟩ := hok
      refine wpAnyH_all hr (by simp) fun j hj => ?_
      obtain rfl : j = i := by simpa using hj
      have hmem : j ∈ Region.ready .any ops listed := by rw [hr]; simp
      obtain ⟨_, o, ho, _⟩ := mem_ready.1 hmem
      simp only [wpChainH, ho] at h
      have h := h (fun a' w' => S w' ∧ wpAnyH P .any ops Q S r.length (listed.setIfInBounds j true) a' w') (fun a' w' hS' h' => ⟨hS', ih _ a' w' hok hS' h'⟩)
      unfold wpOp
      simp only [ho]
      unfold wpList at h
      split at h
      · rename_i hw
        rw [if_pos hw]
        rcases h with h | ⟨h1, h2⟩
        · exact .inl (upon_list (fun a' w' h' => h') _ h)
        · exact .inr ⟨h1, h2⟩
      · rename_i hw
        rw [if_neg hw]
        exact h

/-- A REGION THAT DRAWS ITS ORDER, in the order of the chain. -/
theorem wp_region_chainH {id : Nat} {a : Act} {w : World} (S : World → Prop) (l : List (Bool × Nat)) (hm : P.follows .mixedOrders = true) (hs : Region.noSelect ops = true)
    (hok : (chainOkH ops l (Array.replicate ops.size false) && (l.length == ops.size)) = true) (hQ : ∀ c (d : Tmp) v a w, Q (.panic c) (Act.put a (some d) v) w → Q (.panic c) a w)
    (hS : S w.drew) (h : wpChainH P ops Q S l a w.drew) : (Code.region id ops true).wp P Q a w := by
  simp only [Bool.and_eq_true, beq_iff_eq] at hok
  refine wp_region_held (S := S) hm ?_
  rw [← hok.2]
  exact any_of_chainH hs hQ l _ a _ (by rw [hok.2]; exact hok.1) hS h

theorem chainH_alone {i : Nat} {r : List (Bool × Nat)} {o : Oper} {a : Act} {w : World} (ho : ops[i]? = some o)
    (h : ∀ K : Act → World → Prop, Hid (∀ a w, S w → wpChainH P ops Q S r a w → K a w) → wpList P ops (Exit.then K Q) [o] a w) : wpChainH P ops Q S ((false, i) :: r) a w := by
  simp only [wpChainH, ho]
  exact fun K hK => h K hK
theorem chainH_nil {a : Act} {w : World} (h : Q .normal a w) : wpChainH P ops Q S [] a w := h
theorem chainH_take {i : Nat} {r : List (Bool × Nat)} {o : Oper} {v : Value} {a : Act} {w : World} (ho : ops[i]? = some o) (hw : Region.wanted o (yielded ops a.tmps) = true)
    (hy : ∀ w, S w → (execOp a.eval o).run P w = .ok (.value v) w) (h : wpChainH P ops Q S r (a.put o.dst v) w) : wpChainH P ops Q S ((true, i) :: r) a w := by
  simp only [wpChainH, ho]
  exact ⟨v, Or.inl ⟨hw, hy⟩, h⟩
theorem chainH_skip {i : Nat} {r : List (Bool × Nat)} {o : Oper} {a : Act} {w : World} (ho : ops[i]? = some o) (hw : Region.wanted o (yielded ops a.tmps) = false)
    (h : wpChainH P ops Q S r (a.put o.dst undef) w) : wpChainH P ops Q S ((true, i) :: r) a w := by
  simp only [wpChainH, ho]
  exact ⟨undef, Or.inr ⟨hw, rfl⟩, h⟩
/-- The same of one that comes up alone, where its guard says no. -/
theorem chainH_pass {i : Nat} {r : List (Bool × Nat)} {o : Oper} {a : Act} {w : World} (ho : ops[i]? = some o) (hw : Region.wanted o (yielded ops a.tmps) = false) (hS : S w)
    (h : wpChainH P ops Q S r (a.put o.dst undef) w) : wpChainH P ops Q S ((false, i) :: r) a w := by
  simp only [wpChainH, ho]
  intro K hK
  unfold wpList
  rw [if_neg (by rw [hw]; simp)]
  exact hK _ _ hS h
end
end Go.Proofs.YtkijclgbpbhglaaGreatDoor

namespace Go.Proofs.YtkijclgbpbhglaaGreatDoor
set_option maxRecDepth 100000
open Go.ChangeShapes Go.WideShapes Go.ChangeAt Go.RowKit
set_option linter.unusedVariables false

theorem rightC_pen (c : Cel) (h : rightN c.p = false) : rightC c = false := by unfold rightC; rw [h]; rfl
theorem rightC_half (r m n : Int) (d f g b : Nat) (h : rightN ⟨f, g, b⟩ = true) (h0 : d = 0) : rightC ⟨r, m, n, d, ⟨f, g, b⟩⟩ = decide (r = 0 ∧ m = 0 ∧ n = 0) := by unfold rightC; simp only [h, Bool.true_and]; rw [if_pos h0]
theorem rightC_bears (r m n : Int) (d f g b : Nat) (h : rightN ⟨f, g, b⟩ = true) (h0 : d = 1 ∨ d = 2) : rightC ⟨r, m, n, d, ⟨f, g, b⟩⟩ = (decide (wOf r = d) && marksC m n) := by
  unfold rightC; simp only [h, Bool.true_and]; rw [if_neg (by omega), if_pos]; unfold bearsC; simpa using h0
theorem rightC_more (r m n : Int) (d f g b : Nat) (h0 : ¬ d = 0) (h1 : ¬ d = 1) (h2 : ¬ d = 2) : rightC ⟨r, m, n, d, ⟨f, g, b⟩⟩ = false := by
  unfold rightC; rw [if_neg h0, if_neg]; simp; unfold bearsC; simp [h1, h2]
theorem one_new (w : World) (t : TypeId) (l : List Value) : Below w.heap.size w (w.alloc (.cells l.toArray t)) := (Below.refl _ _).alloc (Nat.le_refl _) _
set_option maxRecDepth 100000 in
set_option maxHeartbeats 4000000 in
theorem cright_any (r m n : Int) (d f g b : Nat) (hd : d < 256) (w : World) (hS : Spans w) : Calls Tryz.prog 91 #[.agg #[.int .i32 r, .int .i32 m, .int .i32 n, .int .u8 (d : Int), .int .u8 (f : Int), .int .u8 (g : Int), .int .u8 (b : Int)]] w (Said (rightC ⟨r, m, n, d, ⟨f, g, b⟩⟩) w) := by
  obtain ⟨W0, hW0⟩ : ∃ W0, w.alloc (.cells #[.int .i32 r, .int .i32 m, .int .i32 n, .int .u8 (d : Int), .int .u8 (f : Int), .int .u8 (g : Int), .int .u8 (b : Int)] 73) = W0 := ⟨_, rfl⟩
  have HS : Hid (Spans W0) := by unfold Hid; rw [← hW0]; exact hS.alloc _
  have HB : Hid (Below w.heap.size w W0) := by unfold Hid; rw [← hW0]; exact one_new w _ [.int .i32 r, .int .i32 m, .int .i32 n, .int .u8 (d : Int), .int .u8 (f : Int), .int .u8 (g : Int), .int .u8 (b : Int)]
  have HC : Hid (Whole W0 w.heap.size 73 [.int .i32 r, .int .i32 m, .int .i32 n, .int .u8 (d : Int), .int .u8 (f : Int), .int .u8 (g : Int), .int .u8 (b : Int)]) := by unfold Hid; rw [← hW0]; exact Whole.new w 73 [.int .i32 r, .int .i32 m, .int .i32 n, .int .u8 (d : Int), .int .u8 (f : Int), .int .u8 (g : Int), .int .u8 (b : Int)]
  have HW0 := hide hW0
  clear hS hW0
  have hd1 : (0 : Int) ≤ (d : Int) := by omega
  have hd2 : (d : Int) ≤ 255 := by omega
  have eC := eqlCell
  cases hp : rightN ⟨f, g, b⟩
  case false =>
    have E := hide (rightC_pen ⟨r, m, n, d, ⟨f, g, b⟩⟩ hp)
    have HP := hide hp
    clear hp
    go_enter Tryz.func91, Tryz.ntmps91
    go_wp2_with fail
    rw [HW0.out]
    refine (right_any f g b _).mono ?_
    rintro e w1 ⟨rfl, hb1⟩
    rw [HP.out]
    have HC1 := hide (HC.out.later hb1)
    have HS1 := hide (HS.out.below hb1)
    have HB1 := hide (HB.out.trans (hb1.mono HB.out.size))
    obtain ⟨c0, c1, c2, c3, c4, c5, c6, cz⟩ := cells7 HC1.out
    clear hb1 cz
    go_wp2
    go_ret
    exact ⟨ret_bool E.out.symm, HB1.out⟩
  case true =>
    have HP := hide hp
    by_cases h0 : d = 0
    · have E := hide (rightC_half r m n d f g b hp h0)
      have e0 : ((d : Int) == 0) = true := by simp; omega
      have HD0 := hide h0
      clear hp h0
      go_enter Tryz.func91, Tryz.ntmps91
      go_wp2_with fail
      rw [HW0.out]
      refine (right_any f g b _).mono ?_
      rintro e w1 ⟨rfl, hb1⟩
      rw [HP.out]
      have HC1 := hide (HC.out.later hb1)
      have HS1 := hide (HS.out.below hb1)
      have HB1 := hide (HB.out.trans (hb1.mono HB.out.size))
      obtain ⟨c0, c1, c2, c3, c4, c5, c6, cz⟩ := cells7 HC1.out
      clear hb1 cz
      go_wp2
      refine wp_region_chainH (fun w' => Below w1.heap.size w1 w') [(true, 0), (false, 1), (false, 2), (false, 3), (false, 4)] (by kernel_rfl) (by kernel_rfl) (by kernel_rfl) (fun _ _ _ _ _ h => h) ?_ ?_
      · exact (Below.refl _ _).drewN 1
      refine chainH_take (v := ?_) (by simp only [List.getElem?_toArray, List.getElem?_cons_zero]; rfl) (by rfl) (fun w hS => ?_) ?_
      rotate_left
      · obtain ⟨a0, a1, a2, a3, a4, a5, a6, -⟩ := cells7 (HC1.out.later hS); go_simp <;> with_reducible rfl
      simp only [Act.put, List.setIfInBounds_toArray, List.set_cons_zero, List.set_cons_succ]
      refine chainH_alone (by simp only [List.getElem?_toArray, List.getElem?_cons_zero, List.getElem?_cons_succ]; rfl) ?_
      intro K hK
      go_wp2
      refine hK.out _ _ ((Below.refl _ _).drewN 1) ?_
      clear hK K
      refine chainH_alone (by simp only [List.getElem?_toArray, List.getElem?_cons_zero, List.getElem?_cons_succ]; rfl) ?_
      intro K hK
      go_wp2_with fail
      refine (rest_any r m n d f g b _).mono ?_
      rintro e w2 ⟨rfl, hb⟩
      have Bw2 : Below w1.heap.size w1 w2 := ((Below.refl _ _).drewN 1).trans hb
      clear hb
      go_wp2
      refine hK.out _ _ Bw2 ?_
      clear hK K
      refine chainH_alone (by simp only [List.getElem?_toArray, List.getElem?_cons_zero, List.getElem?_cons_succ]; rfl) ?_
      intro K hK
      go_wp2
      refine hK.out _ _ Bw2 ?_
      clear hK K
      refine chainH_alone (by simp only [List.getElem?_toArray, List.getElem?_cons_zero, List.getElem?_cons_succ]; rfl) ?_
      intro K hK
      go_wp2
      refine hK.out _ _ Bw2 ?_
      clear hK K
      refine chainH_nil ?_
      go_wp2
      go_ret
      exact ⟨ret_bool (by rw [E.out, eqC_iff, HD0.out]; simp [restC]), HB1.out.trans (Bw2.mono HB1.out.size)⟩
    · have e0 : ((d : Int) == 0) = false := by simp; omega
      by_cases h1 : d = 1
      · have E := hide (rightC_bears r m n d f g b hp (.inl h1))
        have e1 : ((d : Int) == 1) = true := by simp; omega
        obtain ⟨P1, hP1⟩ : ∃ P1, wOf r = P1 := ⟨_, rfl⟩
        have HX := hide hP1
        by_cases hq : P1 = d
        · have hqq : (P1 == (d : Int)) = true := by simpa using hq
          have E2 : Hid (rightC ⟨r, m, n, d, ⟨f, g, b⟩⟩ = marksC m n) := by unfold Hid; rw [E.out, HX.out, decide_eq_true hq]; rfl
          clear hp hP1 hq h0 h1
          go_enter Tryz.func91, Tryz.ntmps91
          go_wp2_with fail
          rw [HW0.out]
          refine (right_any f g b _).mono ?_
          rintro e w1 ⟨rfl, hb1⟩
          rw [HP.out]
          have HC1 := hide (HC.out.later hb1)
          have HS1 := hide (HS.out.below hb1)
          have HB1 := hide (HB.out.trans (hb1.mono HB.out.size))
          obtain ⟨c0, c1, c2, c3, c4, c5, c6, cz⟩ := cells7 HC1.out
          clear hb1 cz
          go_wp2
          refine wp_region_chainH (fun w' => Below w1.heap.size w1 w') [(true, 0), (true, 3), (true, 1), (true, 4), (true, 5), (false, 2), (false, 6), (false, 7), (false, 8), (false, 9), (false, 10), (false, 11), (false, 12)] (by kernel_rfl) (by kernel_rfl) (by kernel_rfl) (fun _ _ _ _ _ h => h) ?_ ?_
          · exact (Below.refl _ _).drewN 1
          refine chainH_take (v := ?_) (by simp only [List.getElem?_toArray, List.getElem?_cons_zero]; rfl) (by rfl) (fun w hS => ?_) ?_
          rotate_left
          · go_simp <;> with_reducible rfl
          simp only [Act.put, List.setIfInBounds_toArray, List.set_cons_zero, List.set_cons_succ]
          refine chainH_take (v := ?_) (by simp only [List.getElem?_toArray, List.getElem?_cons_zero, List.getElem?_cons_succ]; rfl) (by rfl) (fun w hS => ?_) ?_
          rotate_left
          · go_simp <;> with_reducible rfl
          simp only [Act.put, List.setIfInBounds_toArray, List.set_cons_zero, List.set_cons_succ]
          refine chainH_take (v := ?_) (by simp only [List.getElem?_toArray, List.getElem?_cons_zero, List.getElem?_cons_succ]; rfl) (by rfl) (fun w hS => ?_) ?_
          rotate_left
          · obtain ⟨a0, a1, a2, a3, a4, a5, a6, -⟩ := cells7 (HC1.out.later hS); go_simp <;> with_reducible rfl
          simp only [Act.put, List.setIfInBounds_toArray, List.set_cons_zero, List.set_cons_succ]
          refine chainH_take (v := ?_) (by simp only [List.getElem?_toArray, List.getElem?_cons_zero, List.getElem?_cons_succ]; rfl) (by rfl) (fun w hS => ?_) ?_
          rotate_left
          · obtain ⟨a0, a1, a2, a3, a4, a5, a6, -⟩ := cells7 (HC1.out.later hS); go_simp <;> with_reducible rfl
          simp only [Act.put, List.setIfInBounds_toArray, List.set_cons_zero, List.set_cons_succ]
          refine chainH_take (v := ?_) (by simp only [List.getElem?_toArray, List.getElem?_cons_zero, List.getElem?_cons_succ]; rfl) (by rfl) (fun w hS => ?_) ?_
          rotate_left
          · go_simp <;> with_reducible rfl
          simp only [Act.put, List.setIfInBounds_toArray, List.set_cons_zero, List.set_cons_succ]
          refine chainH_alone (by simp only [List.getElem?_toArray, List.getElem?_cons_zero, List.getElem?_cons_succ]; rfl) ?_
          intro K hK
          go_wp2_with fail
          refine (of_any r _ (HS1.out.drewN 1)).mono ?_
          rintro e w2 ⟨rfl, hb⟩
          rw [HX.out]
          have Bw2 : Below w1.heap.size w1 w2 := ((Below.refl _ _).drewN 1).trans hb
          clear hb
          obtain ⟨i0, i1, i2, i3, i4, i5, i6, -⟩ := cells7 (HC1.out.later Bw2)
          go_wp2
          refine hK.out _ _ Bw2 ?_
          clear hK K
          refine chainH_alone (by simp only [List.getElem?_toArray, List.getElem?_cons_zero, List.getElem?_cons_succ]; rfl) ?_
          intro K hK
          go_wp2
          refine hK.out _ _ Bw2 ?_
          clear hK K
          refine chainH_alone (by simp only [List.getElem?_toArray, List.getElem?_cons_zero, List.getElem?_cons_succ]; rfl) ?_
          intro K hK
          go_wp2
          refine hK.out _ _ Bw2 ?_
          clear hK K
          refine chainH_alone (by simp only [List.getElem?_toArray, List.getElem?_cons_zero, List.getElem?_cons_succ]; rfl) ?_
          intro K hK
          go_wp2
          refine hK.out _ _ Bw2 ?_
          clear hK K
          refine chainH_alone (by simp only [List.getElem?_toArray, List.getElem?_cons_zero, List.getElem?_cons_succ]; rfl) ?_
          intro K hK
          go_wp2
          refine hK.out _ _ Bw2 ?_
          clear hK K
          refine chainH_alone (by simp only [List.getElem?_toArray, List.getElem?_cons_zero, List.getElem?_cons_succ]; rfl) ?_
          intro K hK
          go_wp2_with fail
          refine (rmarks_any m n _ (HS1.out.below Bw2)).mono ?_
          rintro e w3 ⟨rfl, hb⟩
          have Bw3 : Below w1.heap.size w1 w3 := Bw2.trans (hb.mono Bw2.size)
          clear hb
          go_wp2
          refine hK.out _ _ Bw3 ?_
          clear hK K
          refine chainH_alone (by simp only [List.getElem?_toArray, List.getElem?_cons_zero, List.getElem?_cons_succ]; rfl) ?_
          intro K hK
          go_wp2
          refine hK.out _ _ Bw3 ?_
          clear hK K
          refine chainH_alone (by simp only [List.getElem?_toArray, List.getElem?_cons_zero, List.getElem?_cons_succ]; rfl) ?_
          intro K hK
          go_wp2
          refine hK.out _ _ Bw3 ?_
          clear hK K
          refine chainH_nil ?_
          go_wp2
          go_ret
          exact ⟨ret_bool E2.out.symm, HB1.out.trans (Bw3.mono HB1.out.size)⟩
        · have hqq : (P1 == (d : Int)) = false := by simpa using hq
          have E2 : Hid (rightC ⟨r, m, n, d, ⟨f, g, b⟩⟩ = false) := by unfold Hid; rw [E.out, HX.out, decide_eq_false hq]; rfl
          clear hp hP1 hq h0 h1
          go_enter Tryz.func91, Tryz.ntmps91
          go_wp2_with fail
          rw [HW0.out]
          refine (right_any f g b _).mono ?_
          rintro e w1 ⟨rfl, hb1⟩
          rw [HP.out]
          have HC1 := hide (HC.out.later hb1)
          have HS1 := hide (HS.out.below hb1)
          have HB1 := hide (HB.out.trans (hb1.mono HB.out.size))
          obtain ⟨c0, c1, c2, c3, c4, c5, c6, cz⟩ := cells7 HC1.out
          clear hb1 cz
          go_wp2
          refine wp_region_chainH (fun w' => Below w1.heap.size w1 w') [(true, 0), (true, 3), (true, 1), (true, 4), (true, 5), (false, 2), (false, 6), (false, 7), (false, 8), (false, 9), (false, 10), (false, 11), (false, 12)] (by kernel_rfl) (by kernel_rfl) (by kernel_rfl) (fun _ _ _ _ _ h => h) ?_ ?_
          · exact (Below.refl _ _).drewN 1
          refine chainH_take (v := ?_) (by simp only [List.getElem?_toArray, List.getElem?_cons_zero]; rfl) (by rfl) (fun w hS => ?_) ?_
          rotate_left
          · go_simp <;> with_reducible rfl
          simp only [Act.put, List.setIfInBounds_toArray, List.set_cons_zero, List.set_cons_succ]
          refine chainH_take (v := ?_) (by simp only [List.getElem?_toArray, List.getElem?_cons_zero, List.getElem?_cons_succ]; rfl) (by rfl) (fun w hS => ?_) ?_
          rotate_left
          · go_simp <;> with_reducible rfl
          simp only [Act.put, List.setIfInBounds_toArray, List.set_cons_zero, List.set_cons_succ]
          refine chainH_take (v := ?_) (by simp only [List.getElem?_toArray, List.getElem?_cons_zero, List.getElem?_cons_succ]; rfl) (by rfl) (fun w hS => ?_) ?_
          rotate_left
          · obtain ⟨a0, a1, a2, a3, a4, a5, a6, -⟩ := cells7 (HC1.out.later hS); go_simp <;> with_reducible rfl
          simp only [Act.put, List.setIfInBounds_toArray, List.set_cons_zero, List.set_cons_succ]
          refine chainH_take (v := ?_) (by simp only [List.getElem?_toArray, List.getElem?_cons_zero, List.getElem?_cons_succ]; rfl) (by rfl) (fun w hS => ?_) ?_
          rotate_left
          · obtain ⟨a0, a1, a2, a3, a4, a5, a6, -⟩ := cells7 (HC1.out.later hS); go_simp <;> with_reducible rfl
          simp only [Act.put, List.setIfInBounds_toArray, List.set_cons_zero, List.set_cons_succ]
          refine chainH_take (v := ?_) (by simp only [List.getElem?_toArray, List.getElem?_cons_zero, List.getElem?_cons_succ]; rfl) (by rfl) (fun w hS => ?_) ?_
          rotate_left
          · go_simp <;> with_reducible rfl
          simp only [Act.put, List.setIfInBounds_toArray, List.set_cons_zero, List.set_cons_succ]
          refine chainH_alone (by simp only [List.getElem?_toArray, List.getElem?_cons_zero, List.getElem?_cons_succ]; rfl) ?_
          intro K hK
          go_wp2_with fail
          refine (of_any r _ (HS1.out.drewN 1)).mono ?_
          rintro e w2 ⟨rfl, hb⟩
          rw [HX.out]
          have Bw2 : Below w1.heap.size w1 w2 := ((Below.refl _ _).drewN 1).trans hb
          clear hb
          obtain ⟨i0, i1, i2, i3, i4, i5, i6, -⟩ := cells7 (HC1.out.later Bw2)
          go_wp2
          refine hK.out _ _ Bw2 ?_
          clear hK K
          refine chainH_alone (by simp only [List.getElem?_toArray, List.getElem?_cons_zero, List.getElem?_cons_succ]; rfl) ?_
          intro K hK
          go_wp2
          refine hK.out _ _ Bw2 ?_
          clear hK K
          refine chainH_alone (by simp only [List.getElem?_toArray, List.getElem?_cons_zero, List.getElem?_cons_succ]; rfl) ?_
          intro K hK
          go_wp2
          refine hK.out _ _ Bw2 ?_
          clear hK K
          rw [hqq]
          refine chainH_pass (by simp only [List.getElem?_toArray, List.getElem?_cons_zero, List.getElem?_cons_succ]; rfl) (by rfl) Bw2 ?_
          simp only [Act.put, List.setIfInBounds_toArray, List.set_cons_zero, List.set_cons_succ]
          refine chainH_pass (by simp only [List.getElem?_toArray, List.getElem?_cons_zero, List.getElem?_cons_succ]; rfl) (by rfl) Bw2 ?_
          simp only [Act.put, List.setIfInBounds_toArray, List.set_cons_zero, List.set_cons_succ]
          refine chainH_pass (by simp only [List.getElem?_toArray, List.getElem?_cons_zero, List.getElem?_cons_succ]; rfl) (by rfl) Bw2 ?_
          simp only [Act.put, List.setIfInBounds_toArray, List.set_cons_zero, List.set_cons_succ]
          refine chainH_alone (by simp only [List.getElem?_toArray, List.getElem?_cons_zero, List.getElem?_cons_succ]; rfl) ?_
          intro K hK
          go_wp2
          refine hK.out _ _ Bw2 ?_
          clear hK K
          refine chainH_alone (by simp only [List.getElem?_toArray, List.getElem?_cons_zero, List.getElem?_cons_succ]; rfl) ?_
          intro K hK
          go_wp2
          refine hK.out _ _ Bw2 ?_
          clear hK K
          refine chainH_nil ?_
          go_wp2
          go_ret
          exact ⟨ret_bool E2.out.symm, HB1.out.trans (Bw2.mono HB1.out.size)⟩
      · have e1 : ((d : Int) == 1) = false := by simp; omega
        by_cases h2 : d = 2
        · have E := hide (rightC_bears r m n d f g b hp (.inr h2))
          have e2 : ((d : Int) == 2) = true := by simp; omega
          obtain ⟨P1, hP1⟩ : ∃ P1, wOf r = P1 := ⟨_, rfl⟩
          have HX := hide hP1
          by_cases hq : P1 = d
          · have hqq : (P1 == (d : Int)) = true := by simpa using hq
            have E2 : Hid (rightC ⟨r, m, n, d, ⟨f, g, b⟩⟩ = marksC m n) := by unfold Hid; rw [E.out, HX.out, decide_eq_true hq]; rfl
            clear hp hP1 hq h0 h1 h2
            go_enter Tryz.func91, Tryz.ntmps91
            go_wp2_with fail
            rw [HW0.out]
            refine (right_any f g b _).mono ?_
            rintro e w1 ⟨rfl, hb1⟩
            rw [HP.out]
            have HC1 := hide (HC.out.later hb1)
            have HS1 := hide (HS.out.below hb1)
            have HB1 := hide (HB.out.trans (hb1.mono HB.out.size))
            obtain ⟨c0, c1, c2, c3, c4, c5, c6, cz⟩ := cells7 HC1.out
            clear hb1 cz
            go_wp2
            refine wp_region_chainH (fun w' => Below w1.heap.size w1 w') [(true, 0), (true, 3), (true, 1), (true, 4), (true, 5), (false, 2), (false, 6), (false, 7), (false, 8), (false, 9), (false, 10), (false, 11), (false, 12)] (by kernel_rfl) (by kernel_rfl) (by kernel_rfl) (fun _ _ _ _ _ h => h) ?_ ?_
            · exact (Below.refl _ _).drewN 1
            refine chainH_take (v := ?_) (by simp only [List.getElem?_toArray, List.getElem?_cons_zero]; rfl) (by rfl) (fun w hS => ?_) ?_
            rotate_left
            · go_simp <;> with_reducible rfl
            simp only [Act.put, List.setIfInBounds_toArray, List.set_cons_zero, List.set_cons_succ]
            refine chainH_take (v := ?_) (by simp only [List.getElem?_toArray, List.getElem?_cons_zero, List.getElem?_cons_succ]; rfl) (by rfl) (fun w hS => ?_) ?_
            rotate_left
            · go_simp <;> with_reducible rfl
            simp only [Act.put, List.setIfInBounds_toArray, List.set_cons_zero, List.set_cons_succ]
            refine chainH_take (v := ?_) (by simp only [List.getElem?_toArray, List.getElem?_cons_zero, List.getElem?_cons_succ]; rfl) (by rfl) (fun w hS => ?_) ?_
            rotate_left
            · obtain ⟨a0, a1, a2, a3, a4, a5, a6, -⟩ := cells7 (HC1.out.later hS); go_simp <;> with_reducible rfl
            simp only [Act.put, List.setIfInBounds_toArray, List.set_cons_zero, List.set_cons_succ]
            refine chainH_take (v := ?_) (by simp only [List.getElem?_toArray, List.getElem?_cons_zero, List.getElem?_cons_succ]; rfl) (by rfl) (fun w hS => ?_) ?_
            rotate_left
            · obtain ⟨a0, a1, a2, a3, a4, a5, a6, -⟩ := cells7 (HC1.out.later hS); go_simp <;> with_reducible rfl
            simp only [Act.put, List.setIfInBounds_toArray, List.set_cons_zero, List.set_cons_succ]
            refine chainH_take (v := ?_) (by simp only [List.getElem?_toArray, List.getElem?_cons_zero, List.getElem?_cons_succ]; rfl) (by rfl) (fun w hS => ?_) ?_
            rotate_left
            · go_simp <;> with_reducible rfl
            simp only [Act.put, List.setIfInBounds_toArray, List.set_cons_zero, List.set_cons_succ]
            refine chainH_alone (by simp only [List.getElem?_toArray, List.getElem?_cons_zero, List.getElem?_cons_succ]; rfl) ?_
            intro K hK
            go_wp2_with fail
            refine (of_any r _ (HS1.out.drewN 1)).mono ?_
            rintro e w2 ⟨rfl, hb⟩
            rw [HX.out]
            have Bw2 : Below w1.heap.size w1 w2 := ((Below.refl _ _).drewN 1).trans hb
            clear hb
            obtain ⟨i0, i1, i2, i3, i4, i5, i6, -⟩ := cells7 (HC1.out.later Bw2)
            go_wp2
            refine hK.out _ _ Bw2 ?_
            clear hK K
            refine chainH_alone (by simp only [List.getElem?_toArray, List.getElem?_cons_zero, List.getElem?_cons_succ]; rfl) ?_
            intro K hK
            go_wp2
            refine hK.out _ _ Bw2 ?_
            clear hK K
            refine chainH_alone (by simp only [List.getElem?_toArray, List.getElem?_cons_zero, List.getElem?_cons_succ]; rfl) ?_
            intro K hK
            go_wp2
            refine hK.out _ _ Bw2 ?_
            clear hK K
            refine chainH_alone (by simp only [List.getElem?_toArray, List.getElem?_cons_zero, List.getElem?_cons_succ]; rfl) ?_
            intro K hK
            go_wp2
            refine hK.out _ _ Bw2 ?_
            clear hK K
            refine chainH_alone (by simp only [List.getElem?_toArray, List.getElem?_cons_zero, List.getElem?_cons_succ]; rfl) ?_
            intro K hK
            go_wp2
            refine hK.out _ _ Bw2 ?_
            clear hK K
            refine chainH_alone (by simp only [List.getElem?_toArray, List.getElem?_cons_zero, List.getElem?_cons_succ]; rfl) ?_
            intro K hK
            go_wp2_with fail
            refine (rmarks_any m n _ (HS1.out.below Bw2)).mono ?_
            rintro e w3 ⟨rfl, hb⟩
            have Bw3 : Below w1.heap.size w1 w3 := Bw2.trans (hb.mono Bw2.size)
            clear hb
            go_wp2
            refine hK.out _ _ Bw3 ?_
            clear hK K
            refine chainH_alone (by simp only [List.getElem?_toArray, List.getElem?_cons_zero, List.getElem?_cons_succ]; rfl) ?_
            intro K hK
            go_wp2
            refine hK.out _ _ Bw3 ?_
            clear hK K
            refine chainH_alone (by simp only [List.getElem?_toArray, List.getElem?_cons_zero, List.getElem?_cons_succ]; rfl) ?_
            intro K hK
            go_wp2
            refine hK.out _ _ Bw3 ?_
            clear hK K
            refine chainH_nil ?_
            go_wp2
            go_ret
            exact ⟨ret_bool E2.out.symm, HB1.out.trans (Bw3.mono HB1.out.size)⟩
          · have hqq : (P1 == (d : Int)) = false := by simpa using hq
            have E2 : Hid (rightC ⟨r, m, n, d, ⟨f, g, b⟩⟩ = false) := by unfold Hid; rw [E.out, HX.out, decide_eq_false hq]; rfl
            clear hp hP1 hq h0 h1 h2
            go_enter Tryz.func91, Tryz.ntmps91
            go_wp2_with fail
            rw [HW0.out]
            refine (right_any f g b _).mono ?_
            rintro e w1 ⟨rfl, hb1⟩
            rw [HP.out]
            have HC1 := hide (HC.out.later hb1)
            have HS1 := hide (HS.out.below hb1)
            have HB1 := hide (HB.out.trans (hb1.mono HB.out.size))
            obtain ⟨c0, c1, c2, c3, c4, c5, c6, cz⟩ := cells7 HC1.out
            clear hb1 cz
            go_wp2
            refine wp_region_chainH (fun w' => Below w1.heap.size w1 w') [(true, 0), (true, 3), (true, 1), (true, 4), (true, 5), (false, 2), (false, 6), (false, 7), (false, 8), (false, 9), (false, 10), (false, 11), (false, 12)] (by kernel_rfl) (by kernel_rfl) (by kernel_rfl) (fun _ _ _ _ _ h => h) ?_ ?_
            · exact (Below.refl _ _).drewN 1
            refine chainH_take (v := ?_) (by simp only [List.getElem?_toArray, List.getElem?_cons_zero]; rfl) (by rfl) (fun w hS => ?_) ?_
            rotate_left
            · go_simp <;> with_reducible rfl
            simp only [Act.put, List.setIfInBounds_toArray, List.set_cons_zero, List.set_cons_succ]
            refine chainH_take (v := ?_) (by simp only [List.getElem?_toArray, List.getElem?_cons_zero, List.getElem?_cons_succ]; rfl) (by rfl) (fun w hS => ?_) ?_
            rotate_left
            · go_simp <;> with_reducible rfl
            simp only [Act.put, List.setIfInBounds_toArray, List.set_cons_zero, List.set_cons_succ]
            refine chainH_take (v := ?_) (by simp only [List.getElem?_toArray, List.getElem?_cons_zero, List.getElem?_cons_succ]; rfl) (by rfl) (fun w hS => ?_) ?_
            rotate_left
            · obtain ⟨a0, a1, a2, a3, a4, a5, a6, -⟩ := cells7 (HC1.out.later hS); go_simp <;> with_reducible rfl
            simp only [Act.put, List.setIfInBounds_toArray, List.set_cons_zero, List.set_cons_succ]
            refine chainH_take (v := ?_) (by simp only [List.getElem?_toArray, List.getElem?_cons_zero, List.getElem?_cons_succ]; rfl) (by rfl) (fun w hS => ?_) ?_
            rotate_left
            · obtain ⟨a0, a1, a2, a3, a4, a5, a6, -⟩ := cells7 (HC1.out.later hS); go_simp <;> with_reducible rfl
            simp only [Act.put, List.setIfInBounds_toArray, List.set_cons_zero, List.set_cons_succ]
            refine chainH_take (v := ?_) (by simp only [List.getElem?_toArray, List.getElem?_cons_zero, List.getElem?_cons_succ]; rfl) (by rfl) (fun w hS => ?_) ?_
            rotate_left
            · go_simp <;> with_reducible rfl
            simp only [Act.put, List.setIfInBounds_toArray, List.set_cons_zero, List.set_cons_succ]
            refine chainH_alone (by simp only [List.getElem?_toArray, List.getElem?_cons_zero, List.getElem?_cons_succ]; rfl) ?_
            intro K hK
            go_wp2_with fail
            refine (of_any r _ (HS1.out.drewN 1)).mono ?_
            rintro e w2 ⟨rfl, hb⟩
            rw [HX.out]
            have Bw2 : Below w1.heap.size w1 w2 := ((Below.refl _ _).drewN 1).trans hb
            clear hb
            obtain ⟨i0, i1, i2, i3, i4, i5, i6, -⟩ := cells7 (HC1.out.later Bw2)
            go_wp2
            refine hK.out _ _ Bw2 ?_
            clear hK K
            refine chainH_alone (by simp only [List.getElem?_toArray, List.getElem?_cons_zero, List.getElem?_cons_succ]; rfl) ?_
            intro K hK
            go_wp2
            refine hK.out _ _ Bw2 ?_
            clear hK K
            refine chainH_alone (by simp only [List.getElem?_toArray, List.getElem?_cons_zero, List.getElem?_cons_succ]; rfl) ?_
            intro K hK
            go_wp2
            refine hK.out _ _ Bw2 ?_
            clear hK K
            rw [hqq]
            refine chainH_pass (by simp only [List.getElem?_toArray, List.getElem?_cons_zero, List.getElem?_cons_succ]; rfl) (by rfl) Bw2 ?_
            simp only [Act.put, List.setIfInBounds_toArray, List.set_cons_zero, List.set_cons_succ]
            refine chainH_pass (by simp only [List.getElem?_toArray, List.getElem?_cons_zero, List.getElem?_cons_succ]; rfl) (by rfl) Bw2 ?_
            simp only [Act.put, List.setIfInBounds_toArray, List.set_cons_zero, List.set_cons_succ]
            refine chainH_pass (by simp only [List.getElem?_toArray, List.getElem?_cons_zero, List.getElem?_cons_succ]; rfl) (by rfl) Bw2 ?_
            simp only [Act.put, List.setIfInBounds_toArray, List.set_cons_zero, List.set_cons_succ]
            refine chainH_alone (by simp only [List.getElem?_toArray, List.getElem?_cons_zero, List.getElem?_cons_succ]; rfl) ?_
            intro K hK
            go_wp2
            refine hK.out _ _ Bw2 ?_
            clear hK K
            refine chainH_alone (by simp only [List.getElem?_toArray, List.getElem?_cons_zero, List.getElem?_cons_succ]; rfl) ?_
            intro K hK
            go_wp2
            refine hK.out _ _ Bw2 ?_
            clear hK K
            refine chainH_nil ?_
            go_wp2
            go_ret
            exact ⟨ret_bool E2.out.symm, HB1.out.trans (Bw2.mono HB1.out.size)⟩
        · have e2 : ((d : Int) == 2) = false := by simp; omega
          have E := hide (rightC_more r m n d f g b h0 h1 h2)
          clear hp h0 h1 h2
          go_enter Tryz.func91, Tryz.ntmps91
          go_wp2_with fail
          rw [HW0.out]
          refine (right_any f g b _).mono ?_
          rintro e w1 ⟨rfl, hb1⟩
          rw [HP.out]
          have HC1 := hide (HC.out.later hb1)
          have HS1 := hide (HS.out.below hb1)
          have HB1 := hide (HB.out.trans (hb1.mono HB.out.size))
          obtain ⟨c0, c1, c2, c3, c4, c5, c6, cz⟩ := cells7 HC1.out
          clear hb1 cz
          go_wp2
          go_ret
          exact ⟨ret_bool E.out.symm, HB1.out⟩
end Go.Proofs.YtkijclgbpbhglaaGreatDoor

namespace Go.Proofs.YtkijclgbpbhglaaGreatDoor
set_option maxRecDepth 100000
open Go.ChangeShapes Go.WideShapes Go.ChangeAt Go.RowKit
set_option linter.unusedVariables false

/-- A row of the call's own holds these numbers. -/
def Cl (te : TypeId) (k : IntKind) (B : Nat) (w : World) (x : Value) (z : List Int) : Prop := w.ownsRow B te 1 x z.length (z.map (Value.int k))

section
variable {te e : TypeId} {k : IntKind} {B : Nat} {w w' wr : World} {x v : Value} {z : List Int}
theorem Own.cl (h : Own te k B w wr x z) : Cl te k B wr x z := h.own
theorem Cl.less {C : Nat} (h : Cl te k B w x z) (hC : C ≤ B) : Cl te k C w x z := by
  refine ⟨h.1, ?_⟩
  rcases h.2 with h0 | ⟨g, cap, cur, hv, hB, h1⟩
  · exact .inl h0
  · exact .inr ⟨g, cap, cur, hv, Nat.le_trans hC hB, h1⟩
theorem Cl.keep (h : Cl te k B w x z) (hb : ∀ (g : Nat) (cur : Array Value), w.heap[g]? = some (Obj.cells cur te (0, 0)) → w'.heap[g]? = w.heap[g]?) : Cl te k B w' x z := by
  refine ⟨h.1, ?_⟩
  rcases h.2 with h0 | ⟨g, cap, cur, hv, hB, hh, h1⟩
  · exact .inl h0
  · exact .inr ⟨g, cap, cur, hv, hB, (hb g cur hh).trans hh, h1⟩
theorem Cl.later (h : Cl te k B w x z) (hb : Below w.heap.size w w') : Cl te k B w' x z := h.keep fun g cur hh => hb.block g (Array.getElem?_eq_some_iff.1 hh).1
theorem Cl.alloc (h : Cl te k B w x z) (o : Obj) : Cl te k B (w.alloc o) x z := h.keep fun g cur hh => Below.heap_alloc w o g (Array.getElem?_eq_some_iff.1 hh).1
theorem Cl.one (h : Cl te k B w x z) : x.oneCell' = true := by
  rcases h.2 with ⟨rfl, _⟩ | ⟨g, cap, cur, rfl, _⟩ <;> rfl
theorem Cl.form (h : Cl te k B w x z) : ∃ A cap, x = .slice A z.length cap ∧ Ints k w A z ∧ z.length ≤ cap ∧ (A = none → cap = 0) ∧ cap ≤ maxLen :=
  Own.form2 (w := w) (B := min B w.heap.size) ⟨h.less (Nat.min_le_left _ _), Below.refl _ _, Nat.min_le_right _ _⟩
end

/-- A row of rows of the call's own (blocks from B on), all that lay below B being as it was. -/
structure Rws (e te : TypeId) (k : IntKind) (B : Nat) (w wr : World) (v : Value) (zss : List (List Int)) : Prop where
  row : ∃ xs : List Value, wr.ownsRow B e 1 v zss.length xs ∧ ∀ (i : Nat) (x : Value) (z : List Int), xs[i]? = some x → zss[i]? = some z → Cl te k B wr x z
  bel : Below B w wr
  le : B ≤ wr.heap.size

section
variable {te e : TypeId} {k : IntKind} {B : Nat} {w wr w1 : World} {v : Value} {zss : List (List Int)}
theorem Rws.start (hB : B ≤ w.heap.size) : Rws e te k B w w (.slice none 0 0) [] := ⟨⟨[], World.ownsRow_nil _ _ _ _, fun i x z h => by simp at h⟩, Below.refl _ _, hB⟩
theorem Rws.later (h : Rws e te k B w wr v zss) (hb : Below wr.heap.size wr w1) : Rws e te k B w w1 v zss := by
  obtain ⟨xs, ho, hc⟩ := h.row
  refine ⟨⟨xs, ⟨ho.1, ?_⟩, fun i x z h1 h2 => (hc i x z h1 h2).later hb⟩, h.bel.trans (hb.mono h.le), Nat.le_trans h.le hb.size⟩
  rcases ho.2 with h0 | ⟨g, cap, cur, hv, hB, hh, h1⟩
  · exact .inl h0
  · exact .inr ⟨g, cap, cur, hv, hB, by rw [hb.block g (Array.getElem?_eq_some_iff.1 hh).1, hh], h1⟩
theorem Rws.alloc (h : Rws e te k B w wr v zss) (o : Obj) : Rws e te k B w (wr.alloc o) v zss := h.later ((Below.refl _ _).alloc (Nat.le_refl _) _)
/-- As a slice that is read. -/
theorem Rws.form (h : Rws e te k B w wr v zss) : ∃ A cap, v = .slice A zss.length cap ∧ zss.length ≤ cap ∧ (A = none → cap = 0) ∧
    ∀ (i : Nat) (z : List Int), zss[i]? = some z → ∃ g A' c', A = some ⟨g, 0, none⟩ ∧ g < wr.heap.size ∧ wr.cell? ⟨g, 0 + i, none⟩ = some (.slice A' z.length c') ∧ Ints k wr A' z ∧ z.length ≤ c' ∧ (A' = none → c' = 0) ∧ c' ≤ maxLen := by
  obtain ⟨xs, ho, hc⟩ := h.row
  have hxl : xs.length = zss.length := by have := ho.1; omega
  rcases ho.2 with ⟨rfl, h0⟩ | ⟨g, cap, cur, rfl, _, hh, hcap, hm, _, _⟩
  · have : zss = [] := List.eq_nil_of_length_eq_zero h0
    subst this
    exact ⟨none, 0, rfl, Nat.le_refl _, (fun _ => rfl), fun i z hz => by simp at hz⟩
  · refine ⟨_, cap, rfl, hcap, (fun h => by cases h), fun i z hz => ?_⟩
    have hi : i < zss.length := (List.getElem?_eq_some_iff.1 hz).1
    have hx : xs[i]? = some xs[i] := List.getElem?_eq_getElem (by omega)
    obtain ⟨A', c', e1, h1, h2, h3, h4⟩ := (hc i _ z hx hz).form
    have hcell := ho.cellAt i (by omega)
    refine ⟨g, A', c', rfl, (Array.getElem?_eq_some_iff.1 hh).1, ?_, h1, h2, h3, h4⟩
    rw [Nat.zero_add, hcell, hx, e1]
end

/-- What the loaded program's table says of a slice type S over slices of type e. -/
structure ElemR (P : Program) (S e : TypeId) : Prop where
  under : P.underlying S = some (.slice e)
  info : (P.info? e).map (fun i => (i.zero, i.size, i.bytes)) = some (some (.slice none 0 0), 1, 24)

end Go.Proofs.YtkijclgbpbhglaaGreatDoor

namespace Go.Proofs.YtkijclgbpbhglaaGreatDoor
set_option maxRecDepth 100000
open Go.ChangeShapes Go.WideShapes Go.ChangeAt Go.RowKit
set_option linter.unusedVariables false

/-- A row made later, from an earlier world on. -/
theorem Own.from {e : TypeId} {k : IntKind} {B : Nat} {w w1 wr : World} {v : Value} {bs : List Int} (h : Own e k w1.heap.size w1 wr v bs) (hb : Below B w w1) (hB : B ≤ w1.heap.size) : Own e k B w wr v bs :=
  ⟨h.cl.less hB, hb.trans (h.bel.mono hB), Nat.le_trans hB h.le⟩
def opt (x : Int) : List Int := if x = 0 then [] else [x]
theorem opt_0 (x : Int) (h : x = 0) : opt x = [] := by unfold opt; rw [if_pos h]
theorem opt_n (x : Int) (h : ¬ x = 0) : opt x = [x] := by unfold opt; rw [if_neg h]
theorem runes_opt (r m n : Int) (d f g b : Nat) (h : bearsC ⟨r, m, n, d, ⟨f, g, b⟩⟩ = true) : runesC ⟨r, m, n, d, ⟨f, g, b⟩⟩ = [r] ++ opt m ++ opt n := by unfold runesC opt; rw [if_pos h]
theorem runes_none (r m n : Int) (d f g b : Nat) (h : bearsC ⟨r, m, n, d, ⟨f, g, b⟩⟩ = false) : runesC ⟨r, m, n, d, ⟨f, g, b⟩⟩ = [] := by unfold runesC; rw [if_neg (by rw [h]; simp)]
theorem opt_len (x : Int) : (opt x).length ≤ 1 := by unfold opt; split <;> simp
set_option maxHeartbeats 2000000 in
theorem runes_any (r m n : Int) (d f g b : Nat) (w : World) : Calls Tryz.prog 70 #[.agg #[.int .i32 r, .int .i32 m, .int .i32 n, .int .u8 (d : Int), .int .u8 (f : Int), .int .u8 (g : Int), .int .u8 (b : Int)]] w (Made 21 .i32 w (runesC ⟨r, m, n, d, ⟨f, g, b⟩⟩)) := by
  obtain ⟨W0, hW0⟩ : ∃ W0, w.alloc (.cells #[.int .i32 r, .int .i32 m, .int .i32 n, .int .u8 (d : Int), .int .u8 (f : Int), .int .u8 (g : Int), .int .u8 (b : Int)] 73) = W0 := ⟨_, rfl⟩
  have HB : Hid (Below w.heap.size w W0) := by unfold Hid; rw [← hW0]; exact one_new w _ [.int .i32 r, .int .i32 m, .int .i32 n, .int .u8 (d : Int), .int .u8 (f : Int), .int .u8 (g : Int), .int .u8 (b : Int)]
  have HC : Hid (Whole W0 w.heap.size 73 [.int .i32 r, .int .i32 m, .int .i32 n, .int .u8 (d : Int), .int .u8 (f : Int), .int .u8 (g : Int), .int .u8 (b : Int)]) := by unfold Hid; rw [← hW0]; exact Whole.new w 73 [.int .i32 r, .int .i32 m, .int .i32 n, .int .u8 (d : Int), .int .u8 (f : Int), .int .u8 (g : Int), .int .u8 (b : Int)]
  have HW0 := hide hW0
  clear hW0
  obtain ⟨c0, c1, c2, c3, c4, c5, c6, -⟩ := cells7 HC.out
  cases hb0 : bearsC ⟨r, m, n, d, ⟨f, g, b⟩⟩
  case false =>
    have E := hide (runes_none r m n d f g b hb0)
    have HBR := hide hb0
    clear hb0
    go_enter Tryz.func70, Tryz.ntmps70
    go_wp2_with fail
    rw [HW0.out]
    refine (bears_any r m n d f g b _).mono ?_
    rintro e w1 ⟨rfl, hb1⟩
    rw [HBR.out]
    go_wp2
    go_ret
    exact ⟨_, rfl, by rw [E.out]; exact ⟨World.ownsRow_nil _ _ _ _, HB.out.trans (hb1.mono HB.out.size), Nat.le_trans HB.out.size hb1.size⟩⟩
  case true =>
    have E := hide (runes_opt r m n d f g b hb0)
    have HBR := hide hb0
    clear hb0
    go_enter Tryz.func70, Tryz.ntmps70
    go_wp2_with fail
    rw [HW0.out]
    refine (bears_any r m n d f g b _).mono ?_
    rintro e w1 ⟨rfl, hb1⟩
    rw [HBR.out]
    have HC1 := hide (HC.out.later hb1)
    have HB1 := hide (HB.out.trans (hb1.mono HB.out.size))
    clear c0 c1 c2 c3 c4 c5 c6 hb1
    obtain ⟨c0, c1, c2, c3, c4, c5, c6, -⟩ := cells7 HC1.out
    have hlt : w.heap.size < w1.heap.size := HC1.out.lt
    have HO := hide ((Own.lit w1 21 .i32 [r] 1 rfl (by omega)).from HB1.out HB1.out.size)
    go_wp2
    go_loopw [3, 5, 14] (fun v _ i wr => (i = .int .i64 0 ∧ Own 21 .i32 w.heap.size w wr v [r]) ∨ (i = .int .i64 1 ∧ Own 21 .i32 w.heap.size w wr v ([r] ++ opt m)) ∨ (i = .int .i64 2 ∧ Own 21 .i32 w.heap.size w wr v ([r] ++ opt m ++ opt n))) (fun _ _ i _ => 2 - (intOf i).toNat)
    case atStart => exact .inl ⟨rfl, HO.out⟩
    case round =>
      have i0 := idx0 (.int .i32 m) (.int .i32 n)
      have i1 := idx1 (.int .i32 m) (.int .i32 n)
      rcases hrel with ⟨rfl, hown⟩ | ⟨rfl, hown⟩ | ⟨rfl, hown⟩
      · by_cases hm : m = 0
        · have hq : (m != 0) = false := by simpa using hm
          have HM := hide (opt_0 m hm)
          clear hm
          go_wp2
          go_roundw
          case rel => exact .inr (.inl ⟨by go_num, by rw [HM.out, List.append_nil]; exact hown⟩)
          case measure => simp [intOf]
        · have hq : (m != 0) = true := by simpa using hm
          have HM := hide (opt_n m hm)
          clear hm
          go_wp2_with (at_builtin; refine wpList_push elem129 rfl _ _ rfl rfl rfl hown (by simp) (by omega) ?_; intro v' w2 hown2)
          go_roundw
          case rel => exact .inr (.inl ⟨by go_num, by rw [HM.out]; exact hown2⟩)
          case measure => simp [intOf]
      · have hl := opt_len m
        by_cases hn : n = 0
        · have hq : (n != 0) = false := by simpa using hn
          have HN := hide (opt_0 n hn)
          clear hn
          go_wp2
          go_roundw
          case rel => exact .inr (.inr ⟨by go_num, by rw [HN.out, List.append_nil]; exact hown⟩)
          case measure => simp [intOf]
        · have hq : (n != 0) = true := by simpa using hn
          have HN := hide (opt_n n hn)
          clear hn
          have hl2 : ([r] ++ opt m).length ≤ 1000000 := by simp; omega
          generalize [r] ++ opt m = L at *
          go_wp2_with (at_builtin; refine wpList_push elem129 rfl _ _ rfl rfl rfl hown hl2 (by omega) ?_; intro v' w2 hown2)
          go_roundw
          case rel => exact .inr (.inr ⟨by go_num, by rw [HN.out]; exact hown2⟩)
          case measure => simp [intOf]
      · go_wp2
        go_ret
        exact ⟨_, rfl, by rw [E.out]; exact hown⟩
end Go.Proofs.YtkijclgbpbhglaaGreatDoor

namespace Go.Proofs.YtkijclgbpbhglaaGreatDoor
set_option maxRecDepth 100000
open Go.ChangeShapes Go.WideShapes Go.ChangeAt Go.RowKit

theorem u8_nat {a : Int} (h : (Lit.int .u8 a).wf = true) : ∃ k : Nat, a = (k : Int) ∧ k < 256 := by
  have := u8_bd h
  exact ⟨a.toNat, by omega, by omega⟩
theorem i64_bd {a : Int} (h : (Lit.int .i64 a).wf = true) : -9223372036854775808 ≤ a ∧ a < 9223372036854775808 := by
  have : -9223372036854775808 ≤ a ∧ a ≤ 9223372036854775807 := by simpa [Lit.wf, IntKind.min, IntKind.max, IntKind.signed, IntKind.bits] using h
  omega
end Go.Proofs.YtkijclgbpbhglaaGreatDoor

namespace Go.Proofs.YtkijclgbpbhglaaGreatDoor
set_option maxRecDepth 100000
open Go.ChangeShapes Go.WideShapes Go.ChangeAt Go.RowKit
set_option linter.unusedVariables false

/-- The call answered with this value, and left all that was there. -/
def Gave (v : Value) (w : World) (e : Ending) (w' : World) : Prop := e = .returned v ∧ Below w.heap.size w w'
theorem blank_v (f g b : Nat) (w : World) : Calls Tryz.prog 32 #[.agg #[.int .u8 (f : Int), .int .u8 (g : Int), .int .u8 (b : Int)]] w (Gave (.agg #[.int .i32 32, .int .i32 0, .int .i32 0, .int .u8 (1 : Int), .int .u8 (f : Int), .int .u8 (g : Int), .int .u8 (b : Int)]) w) := blank_any f g b w
theorem rest_v (r m n : Int) (d f g b : Nat) (w : World) : Calls Tryz.prog 93 #[.agg #[.int .i32 r, .int .i32 m, .int .i32 n, .int .u8 (d : Int), .int .u8 (f : Int), .int .u8 (g : Int), .int .u8 (b : Int)]] w (Gave (.agg #[.int .i32 0, .int .i32 0, .int .i32 0, .int .u8 (0 : Int), .int .u8 (f : Int), .int .u8 (g : Int), .int .u8 (b : Int)]) w) := rest_any r m n d f g b w
theorem cof_v (x : Int) (F G B : Nat) (r m n : Int) (d f g b : Nat) (ok : Bool) (h : ofC x ⟨F, G, B⟩ = (⟨r, m, n, d, ⟨f, g, b⟩⟩, ok)) (w : World) (hS : Spans w) : Calls Tryz.prog 96 #[.int .i32 x, .agg #[.int .u8 (F : Int), .int .u8 (G : Int), .int .u8 (B : Int)]] w (Gave (.tuple #[.agg #[.int .i32 r, .int .i32 m, .int .i32 n, .int .u8 (d : Int), .int .u8 (f : Int), .int .u8 (g : Int), .int .u8 (b : Int)], .bool ok]) w) := by
  have := cof_any x F G B w hS
  rw [h] at this
  exact this
theorem cmark_v (r m n : Int) (d f g b : Nat) (x : Int) (r' m' n' : Int) (d' f' g' b' : Nat) (ok : Bool) (h : markC ⟨r, m, n, d, ⟨f, g, b⟩⟩ x = (⟨r', m', n', d', ⟨f', g', b'⟩⟩, ok)) (w : World) (hS : Spans w) : Calls Tryz.prog 209 #[.agg #[.int .i32 r, .int .i32 m, .int .i32 n, .int .u8 (d : Int), .int .u8 (f : Int), .int .u8 (g : Int), .int .u8 (b : Int)], .int .i32 x] w (Gave (.tuple #[.agg #[.int .i32 r', .int .i32 m', .int .i32 n', .int .u8 (d' : Int), .int .u8 (f' : Int), .int .u8 (g' : Int), .int .u8 (b' : Int)], .bool ok]) w) := by
  have := cmark_any r m n d f g b x w hS
  rw [h] at this
  exact this
theorem r32_0 : R32 0 := by unfold R32; omega
theorem mark_r32 {x r m n : Int} {d : Nat} {p : Pn} {r' m' n' : Int} {d' : Nat} {q : Pn} {ok : Bool} (hx : R32 x) (hr : R32 r) (hm : R32 m) (hn : R32 n) (hd : d < 256) (h : markC ⟨r, m, n, d, p⟩ x = (⟨r', m', n', d', q⟩, ok)) : R32 r' ∧ R32 m' ∧ R32 n' ∧ d' < 256 := by
  unfold markC at h
  split at h
  · split at h
    · cases h; exact ⟨hr, hx, hn, hd⟩
    · split at h
      · cases h; exact ⟨hr, hm, hx, hd⟩
      · cases h; exact ⟨hr, hm, hn, hd⟩
  · cases h; exact ⟨hr, hm, hn, hd⟩
theorem cells3 {w : World} {q : Nat} {t : TypeId} {x0 x1 x2 : Value} (h : Whole w q t [x0, x1, x2]) : w.cell? ⟨q, 0, none⟩ = some x0 ∧ w.cell? ⟨q, 1, none⟩ = some x1 ∧ w.cell? ⟨q, 2, none⟩ = some x2 ∧ q < w.heap.size := ⟨h.cell 0, h.cell 1, h.cell 2, h.lt⟩
end Go.Proofs.YtkijclgbpbhglaaGreatDoor
