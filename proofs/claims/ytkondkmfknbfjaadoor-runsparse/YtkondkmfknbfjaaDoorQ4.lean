/-
  Contracts and plain mathematics of CWrong, Chain, ChainH, CRight, CRRight.
-/
import Derived.Test.YtkondkmfknbfjaaDoorQ3
import Derived.Test.YtkondkmfknbfjaaDoorQ1
import Derived.Orders
import Derived.Deep.RegionHeld
namespace Go.Proofs.YtkondkmfknbfjaaDoor
set_option maxRecDepth 100000
set_option linter.unusedVariables false
set_option maxHeartbeats 8000000
section
open Go.ChangeShapes Go.WideShapes Go.ChangeAt Go.RowKit
/-- Is a mark wrong, behind a place where one isn't (z)? -/
def wrongC (z : Bool) (x : Int) : Bool := if x = 0 then false else z || !(wOf x == 0)
theorem wrong_0 (z : Bool) (x : Int) (h : x = 0) : wrongC z x = false := by unfold wrongC; rw [if_pos h]
theorem wrong_n (z : Bool) (x : Int) (h : ¬ x = 0) : wrongC z x = (z || !(wOf x == 0)) := by unfold wrongC; rw [if_neg h]
theorem marks_wrong (m n : Int) : marksC m n = !(wrongC false m || wrongC (m == 0) n) := by
  unfold marksC wrongC
  by_cases h : m = 0
  · subst h
    by_cases h2 : n = 0
    · simp [h2]
    · simp [h2]
  · have e : (m == 0) = false := by simpa using h
    rw [if_neg h, if_neg h, e]
    by_cases h2 : n = 0
    · simp [h2]; rfl
    · simp [h2]; rfl
/-- What the closure leaves. -/
def WrongMark (q : Nat) (z : Bool) (x : Int) (w : World) (e : Ending) (w' : World) : Prop :=
  e = .returned (.bool (wrongC z x)) ∧ Whole w' q 4 [.bool (z || (x == 0))] ∧ Fr w.heap.size q w w'
theorem wrong_any (q : Nat) (z : Bool) (x : Int) (w : World) (hq : Whole w q 4 [.bool z]) (hS : Spans w) : Calls Tryd.prog 77 #[.int .i32 x, .pointer (some ⟨q, 0, none⟩)] w (WrongMark q z x w) := by
  have c0 : w.cell? ⟨q, 0, none⟩ = some (.bool z) := hq.cell 0
  have z0 := hq.frozen 0
  have HQ := hide hq
  have HS := hide hS
  clear hq hS
  by_cases h : x = 0
  · have E := hide (wrong_0 z x h)
    have e0 : (x == 0) = true := by simpa using h
    have E0 := hide e0
    clear h
    go_enter Tryd.func77, Tryd.ntmps77
    go_wp2
    go_ret
    exact ⟨ret_bool E.out.symm, by rw [E0.out, Bool.or_true]; exact HQ.out.put 0 _, Fr.put 0 _⟩
  · have E := hide (wrong_n z x h)
    have e0 : (x == 0) = false := by simpa using h
    have E0 := hide e0
    clear h
    cases z
    · go_enter Tryd.func77, Tryd.ntmps77
      go_wp2_with fail
      refine (mark_any x _ HS.out).mono ?_
      rintro e w1 ⟨rfl, hb⟩
      go_wp2
      go_ret
      exact ⟨ret_bool (by rw [E.out]; rfl), by rw [E0.out]; exact HQ.out.later hb, Fr.of_below hb⟩
    · go_enter Tryd.func77, Tryd.ntmps77
      go_wp2
      go_ret
      exact ⟨ret_bool (by rw [E.out]; rfl), by rw [E0.out]; exact HQ.out, Fr.refl⟩
theorem spans_ne {w : World} {g t : Nat} {x : Value} (hS : Spans w) (h : Whole w g t [x]) : 0 ≠ g := by
  rintro rfl
  have h1 := hS 1 (.int .i32 31) rfl
  rw [Nat.zero_add, h.cell 1] at h1
  cases h1
theorem Fr.spans {g : Nat} {w w' : World} (h : Fr w.heap.size g w w') (hS : Spans w) (hg : 0 ≠ g) : Spans w' := fun j v hv => by
  have := hS j v hv
  rw [← this]
  exact World.cell?_of_block (w := w) (h.block 0 hS.size hg)
theorem Fr.whole {g g2 : Nat} {w w' : World} {t : TypeId} {l : List Value} (h : Fr w.heap.size g w w') (hw : Whole w g2 t l) (hne : g2 ≠ g) : Whole w' g2 t l := (h.block g2 hw.lt hne).trans hw
/-- What the search leaves. -/
def FoundMark (q : Nat) (m n : Int) (w : World) (e : Ending) (w' : World) : Prop :=
  e = .returned (.int .i64 (if wrongC false m = true then 0 else if wrongC (m == 0) n = true then 1 else -1)) ∧ Fr w.heap.size q w w'
theorem indexf_any (q a : Nat) (m n : Int) (w : World) (hq : Whole w q 4 [.bool false]) (ha : Whole w a 56 [.int .i32 m, .int .i32 n]) (hne : a ≠ q) (hS : Spans w) :
    Calls Tryd.prog 90 #[.slice (some ⟨a, 0, none⟩) 2 2, .func (.func 77) #[] #[.pointer (some ⟨q, 0, none⟩)]] w (FoundMark q m n w) := by
  have hg0 := spans_ne hS hq
  have HQ := hide hq
  have HA := hide ha
  have HS := hide hS
  clear hq ha hS
  go_enter Tryd.func90, Tryd.ntmps90
  go_wp2
  go_loopw [5, 8] (fun _ i wr => ((i = .int .i64 0 ∧ Whole wr q 4 [.bool false]) ∨ (i = .int .i64 1 ∧ Hid (wrongC false m = false) ∧ Whole wr q 4 [.bool (m == 0)]) ∨ (i = .int .i64 2 ∧ Hid (wrongC false m = false) ∧ Hid (wrongC (m == 0) n = false))) ∧ Fr w.heap.size q w wr) (fun _ i _ => 2 - (intOf i).toNat)
  case atStart => exact ⟨.inl ⟨rfl, HQ.out⟩, Fr.refl⟩
  case round =>
    obtain ⟨hcase, hfr⟩ := hrel
    have HFR := hide hfr
    have HA2 := hide (hfr.whole HA.out hne)
    have HS2 := hide (hfr.spans HS.out hg0)
    clear hfr
    have a0 : wr.cell? ⟨a, 0, none⟩ = some (.int .i32 m) := HA2.out.cell 0
    have a1 : wr.cell? ⟨a, 1, none⟩ = some (.int .i32 n) := HA2.out.cell 1
    rcases hcase with ⟨rfl, hq⟩ | ⟨rfl, H1, hq⟩ | ⟨rfl, H1, H2⟩
    · have HC := hide (wrong_any q false m wr hq HS2.out)
      clear hq
      cases hw : wrongC false m
      · have HW := hide hw
        clear hw
        go_wp2_with fail
        refine HC.out.mono ?_
        rintro e w1 ⟨rfl, h2, h3⟩
        rw [HW.out]
        have H2 := hide h2
        have H3 : Hid (Fr w.heap.size q w w1) := HFR.out.trans (h3.less HFR.out.size)
        clear h2 h3
        go_wp2
        go_roundw
        case rel => exact ⟨.inr (.inl ⟨by go_num, by first | exact HW | exact hide trivial, by simpa using H2.out⟩), H3.out⟩
        case measure => simp [intOf]
      · have HW := hide hw
        clear hw
        go_wp2_with fail
        refine HC.out.mono ?_
        rintro e w1 ⟨rfl, h2, h3⟩
        rw [HW.out]
        go_wp2
        go_ret
        exact ⟨ret_int (by rw [HW.out]; rfl), HFR.out.trans (h3.less HFR.out.size)⟩
    · obtain ⟨z, hz⟩ : ∃ z, (m == 0) = z := ⟨_, rfl⟩
      have HZ := hide hz
      rw [hz] at hq
      have HC := hide (wrong_any q z n wr hq HS2.out)
      clear hq hz
      cases hw : wrongC z n
      · have HW := hide hw
        clear hw
        go_wp2_with fail
        refine HC.out.mono ?_
        rintro e w1 ⟨rfl, h2, h3⟩
        rw [HW.out]
        have H3 : Hid (Fr w.heap.size q w w1) := HFR.out.trans (h3.less HFR.out.size)
        clear h2 h3
        go_wp2
        go_roundw
        case rel => exact ⟨.inr (.inr ⟨by go_num, H1, by unfold Hid; rw [HZ.out]; exact HW.out⟩), H3.out⟩
        case measure => simp [intOf]
      · have HW := hide hw
        clear hw
        go_wp2_with fail
        refine HC.out.mono ?_
        rintro e w1 ⟨rfl, h2, h3⟩
        rw [HW.out]
        go_wp2
        go_ret
        exact ⟨ret_int (by rw [H1.out, HZ.out, HW.out]; rfl), HFR.out.trans (h3.less HFR.out.size)⟩
    · go_wp2
      go_ret
      exact ⟨ret_int (by rw [H1.out, H2.out]; rfl), HFR.out⟩
/-- .. -/
def HasWrong (q : Nat) (m n : Int) (w : World) (e : Ending) (w' : World) : Prop := e = .returned (.bool (!marksC m n)) ∧ Fr w.heap.size q w w'
theorem contains_any (q a : Nat) (m n : Int) (w : World) (hq : Whole w q 4 [.bool false]) (ha : Whole w a 56 [.int .i32 m, .int .i32 n]) (hne : a ≠ q) (hS : Spans w) :
    Calls Tryd.prog 79 #[.slice (some ⟨a, 0, none⟩) 2 2, .func (.func 77) #[] #[.pointer (some ⟨q, 0, none⟩)]] w (HasWrong q m n w) := by
  have HC := hide (indexf_any q a m n w hq ha hne hS)
  have HM := hide (marks_wrong m n)
  clear hq ha hS
  obtain ⟨x, hx⟩ : ∃ x, wrongC false m = x := ⟨_, rfl⟩
  obtain ⟨y, hy⟩ : ∃ y, wrongC (m == 0) n = y := ⟨_, rfl⟩
  have HX := hide hx
  have HY := hide hy
  clear hx hy
  cases x <;> cases y
  all_goals
    go_enter Tryd.func79, Tryd.ntmps79
    go_wp2_with fail
    refine HC.out.mono ?_
    rintro e w1 ⟨rfl, h3⟩
    rw [HX.out, HY.out]
    go_wp2
    go_ret
    exact ⟨ret_bool (by rw [HM.out, HX.out, HY.out]; rfl), h3⟩
theorem rmarks_any (m n : Int) (w : World) (hS : Spans w) : Calls Tryd.prog 57 #[.agg #[.int .i32 m, .int .i32 n]] w (Said (marksC m n) w) := by
  obtain ⟨W0, hW0⟩ : ∃ W0, (w.alloc (.cells #[.int .i32 m, .int .i32 n] 56)).alloc (.cells #[.bool false] 4) = W0 := ⟨_, rfl⟩
  have HS : Hid (Spans W0) := by unfold Hid; rw [← hW0]; exact (hS.alloc _).alloc _
  have HB : Hid (Below w.heap.size w W0) := by unfold Hid; rw [← hW0]; exact two_new w _ _ [.int .i32 m, .int .i32 n] [.bool false]
  have HA : Hid (Whole W0 w.heap.size 56 [.int .i32 m, .int .i32 n]) := by unfold Hid; rw [← hW0]; exact (Whole.new w 56 [.int .i32 m, .int .i32 n]).alloc _
  have HQ : Hid (Whole W0 (w.heap.size + 1) 4 [.bool false]) := by unfold Hid; rw [← hW0]; exact whole_snd w _ 4 [.bool false]
  have HZ : Hid (w.heap.size + 1 ≤ W0.heap.size) := by unfold Hid; rw [← hW0]; simp
  have HW0 := hide hW0
  clear hS hW0
  go_enter Tryd.func57, Tryd.ntmps57
  go_wp2_with fail
  rw [HW0.out]
  refine (contains_any (w.heap.size + 1) w.heap.size m n W0 HQ.out HA.out (by omega) HS.out).mono ?_
  rintro e w1 ⟨rfl, h3⟩
  go_wp2
  go_ret
  exact ⟨ret_bool (by simp), HB.out.trans (h3.below (by have := HZ.out; omega) (by omega))⟩
end
section
open Go.RowKit
section
variable {P : Program} {ops : Array Oper} {Q : Exit → Act → World → Prop}

theorem upon_list {o : Oper} {a : Act} {K M N : Act → World → Prop} (hM : ∀ a w, M a w → K a w) (r : Result Next) (h : o.upon P a M (Exit.then N Q) r) : o.upon P a K Q r := by
  cases r with
  | ok n w' =>
    cases n <;> simp only [Oper.upon] at h ⊢
    case value => exact hM _ _ h
    case skip => exact hM _ _ h
    case defer => exact hM _ _ h
    case enter =>
      refine Calls.mono h fun e w'' he => ?_
      cases e with
      | returned => exact hM _ _ he
      | panicked => exact he
      | outgrown => exact he
    case row => exact Rows.mono h fun _ _ he => hM _ _ he
  | halt x w' => cases x <;> simp only [Oper.upon] at h ⊢ <;> exact h

end
/-! ### the steps, their closed facts filled -/
section
variable {P : Program} {ops : Array Oper} {Q : Exit → Act → World → Prop}
end
/-- '(true, i)': number i is taken early. '(false, i)': it comes up alone. -/
def wpChainH (P : Program) (ops : Array Oper) (Q : Exit → Act → World → Prop) (S : World → Prop) : List (Bool × Nat) → Act → World → Prop
  | [], a, w => Q .normal a w
  | (true, i) :: r, a, w => match ops[i]? with
    | some o => ∃ v, YieldsIf P ops S o v a ∧ wpChainH P ops Q S r (a.put o.dst v) w
    | none => False
  | (false, i) :: r, a, w => match ops[i]? with
    | some o => ∀ K : Act → World → Prop, (∀ a w, S w → wpChainH P ops Q S r a w → K a w) → wpList P ops (Exit.then K Q) [o] a w
    | none => False

def chainOkH (ops : Array Oper) : List (Bool × Nat) → Array Bool → Bool
  | [], listed => (Region.ready .any ops listed).isEmpty
  | (true, i) :: r, listed => Region.free .any ops listed i && (Region.ready .any ops listed).contains i && chainOkH ops r (listed.setIfInBounds i true)
  | (false, i) :: r, listed => (Region.ready .any ops listed == [i]) && chainOkH ops r (listed.setIfInBounds i true)

section
variable {P : Program} {ops : Array Oper} {Q : Exit → Act → World → Prop} {S : World → Prop}

theorem any_of_chainH (hs : Region.noSelect ops = true) (hQ : ∀ c (d : Tmp) v a w, Q (.panic c) (Act.put a (some d) v) w → Q (.panic c) a w) :
    ∀ (l : List (Bool × Nat)) (listed : Array Bool) (a : Act) (w : World), chainOkH ops l listed = true → S w → wpChainH P ops Q S l a w → wpAnyH P .any ops Q S l.length listed a w := by
  intro l
  induction l with
  | nil =>
    intro listed a w hok _ h
    exact wpAnyH_done (by simpa [chainOkH] using hok) h 0
  | cons x r ih =>
    obtain ⟨b, i⟩ := x
    intro listed a w hok hS h
    cases b with
    | true =>
      simp only [chainOkH, Bool.and_eq_true] at hok
      obtain ⟨⟨hf, hr⟩, hok⟩ := hok
      have hmem : i ∈ Region.ready .any ops listed := by simpa using hr
      obtain ⟨_, o, ho, _⟩ := mem_ready.1 hmem
      simp only [wpChainH, ho] at h
      obtain ⟨v, hy, h⟩ := h
      refine wpAnyH_take ho hs hf hr (fun c a w hh => ?_) hy hS (ih _ _ _ hok hS h)
      cases hd : o.dst with
      | none => rw [hd] at hh; exact hh
      | some d => rw [hd] at hh; exact hQ c d v a w hh
    | false =>
      simp only [chainOkH, Bool.and_eq_true, beq_iff_eq] at hok
      obtain ⟨hr, hok⟩ := hok
      refine wpAnyH_all hr (by simp) fun j hj => ?_
      obtain rfl : j = i := by simpa using hj
      have hmem : j ∈ Region.ready .any ops listed := by rw [hr]; simp
      obtain ⟨_, o, ho, _⟩ := mem_ready.1 hmem
      simp only [wpChainH, ho] at h
      have h := h (fun a' w' => S w' ∧ wpAnyH P .any ops Q S r.length (listed.setIfInBounds j true) a' w') (fun a' w' hS' h' => ⟨hS', ih _ a' w' hok hS' h'⟩)
      unfold wpOp
      simp only [ho]
      unfold wpList at h
      split at h
      · rename_i hw
        rw [if_pos hw]
        rcases h with h | ⟨h1, h2⟩
        · exact .inl (upon_list (fun a' w' h' => h') _ h)
        · exact .inr ⟨h1, h2⟩
      · rename_i hw
        rw [if_neg hw]
        exact h

/-- A REGION THAT DRAWS ITS ORDER, in the order of the chain. -/
theorem wp_region_chainH {id : Nat} {a : Act} {w : World} (S : World → Prop) (l : List (Bool × Nat)) (hm : P.follows .mixedOrders = true) (hs : Region.noSelect ops = true)
    (hok : (chainOkH ops l (Array.replicate ops.size false) && (l.length == ops.size)) = true) (hQ : ∀ c (d : Tmp) v a w, Q (.panic c) (Act.put a (some d) v) w → Q (.panic c) a w)
    (hS : S w.drew) (h : wpChainH P ops Q S l a w.drew) : (Code.region id ops true).wp P Q a w := by
  simp only [Bool.and_eq_true, beq_iff_eq] at hok
  refine wp_region_held (S := S) hm ?_
  rw [← hok.2]
  exact any_of_chainH hs hQ l _ a _ (by rw [hok.2]; exact hok.1) hS h

theorem chainH_alone {i : Nat} {r : List (Bool × Nat)} {o : Oper} {a : Act} {w : World} (ho : ops[i]? = some o)
    (h : ∀ K : Act → World → Prop, Hid (∀ a w, S w → wpChainH P ops Q S r a w → K a w) → wpList P ops (Exit.then K Q) [o] a w) : wpChainH P ops Q S ((false, i) :: r) a w := by
  simp only [wpChainH, ho]
  exact fun K hK => h K hK
theorem chainH_nil {a : Act} {w : World} (h : Q .normal a w) : wpChainH P ops Q S [] a w := h
theorem chainH_take {i : Nat} {r : List (Bool × Nat)} {o : Oper} {v : Value} {a : Act} {w : World} (ho : ops[i]? = some o) (hw : Region.wanted o (yielded ops a.tmps) = true)
    (hy : ∀ w, S w → (execOp a.eval o).run P w = .ok (.value v) w) (h : wpChainH P ops Q S r (a.put o.dst v) w) : wpChainH P ops Q S ((true, i) :: r) a w := by
  simp only [wpChainH, ho]
  exact ⟨v, Or.inl ⟨hw, hy⟩, h⟩
/-- The same of one that comes up alone, where its guard says no. -/
theorem chainH_pass {i : Nat} {r : List (Bool × Nat)} {o : Oper} {a : Act} {w : World} (ho : ops[i]? = some o) (hw : Region.wanted o (yielded ops a.tmps) = false) (hS : S w)
    (h : wpChainH P ops Q S r (a.put o.dst undef) w) : wpChainH P ops Q S ((false, i) :: r) a w := by
  simp only [wpChainH, ho]
  intro K hK
  unfold wpList
  rw [if_neg (by rw [hw]; simp)]
  exact hK _ _ hS h
end
/-! ### the steps, their closed facts filled -/
section
variable {P : Program} {ops : Array Oper} {Q : Exit → Act → World → Prop} {S : World → Prop}
theorem rgH {id : Nat} {a : Act} {w : World} (S : World → Prop) (l : List (Bool × Nat)) (hS : S w.drew) (h : wpChainH P ops Q S l a w.drew) (hm : P.follows .mixedOrders = true := by kernel_rfl) (hs : Region.noSelect ops = true := by kernel_rfl)
    (hok : (chainOkH ops l (Array.replicate ops.size false) && (l.length == ops.size)) = true := by kernel_rfl) (hQ : ∀ c (d : Tmp) v a w, Q (.panic c) (Act.put a (some d) v) w → Q (.panic c) a w := by exact fun _ _ _ _ _ h => h) : (Code.region id ops true).wp P Q a w := wp_region_chainH S l hm hs hok hQ hS h
theorem alH {i : Nat} {r : List (Bool × Nat)} {o : Oper} {a : Act} {w : World}
    (h : ∀ K : Act → World → Prop, Hid (∀ a w, S w → wpChainH P ops Q S r a w → K a w) → wpList P ops (Exit.then K Q) [o] a w) (ho : ops[i]? = some o := by simp only [List.getElem?_toArray, List.getElem?_cons_zero, List.getElem?_cons_succ] <;> rfl) : wpChainH P ops Q S ((false, i) :: r) a w := chainH_alone ho h
theorem stH {i : Nat} {r : List (Bool × Nat)} {o : Oper} {v : Value} {a a2 : Act} {w : World} (ho : ops[i]? = some o := by simp only [List.getElem?_toArray, List.getElem?_cons_zero, List.getElem?_cons_succ] <;> rfl) (hw : Region.wanted o (yielded ops a.tmps) = true := by rfl) (hy : ∀ w, S w → (execOp a.eval o).run P w = .ok (.value v) w := by intro w hS; go_simp <;> with_reducible rfl)
    (ha : a.put o.dst v = a2 := by simp only [Act.put, List.setIfInBounds_toArray, List.set_cons_zero, List.set_cons_succ] <;> rfl) (h : wpChainH P ops Q S r a2 w) : wpChainH P ops Q S ((true, i) :: r) a w := chainH_take ho hw hy (ha ▸ h)
theorem paH {i : Nat} {r : List (Bool × Nat)} {o : Oper} {a a2 : Act} {w : World} (hS : S w) (ho : ops[i]? = some o := by simp only [List.getElem?_toArray, List.getElem?_cons_zero, List.getElem?_cons_succ] <;> rfl) (hw : Region.wanted o (yielded ops a.tmps) = false := by rfl) (ha : a.put o.dst undef = a2 := by simp only [Act.put, List.setIfInBounds_toArray, List.set_cons_zero, List.set_cons_succ] <;> rfl) (h : wpChainH P ops Q S r a2 w) : wpChainH P ops Q S ((false, i) :: r) a w := chainH_pass ho hw hS (ha ▸ h)
end
end
section
open Go.ChangeShapes Go.WideShapes Go.ChangeAt Go.RowKit
theorem rightC_pen (c : Cel) (h : rightN c.p = false) : rightC c = false := by unfold rightC; rw [h]; rfl
theorem rightC_half (r m n : Int) (d f g b : Nat) (h : rightN ⟨f, g, b⟩ = true) (h0 : d = 0) : rightC ⟨r, m, n, d, ⟨f, g, b⟩⟩ = decide (r = 0 ∧ m = 0 ∧ n = 0) := by unfold rightC; simp only [h, Bool.true_and]; rw [if_pos h0]
theorem rightC_bears (r m n : Int) (d f g b : Nat) (h : rightN ⟨f, g, b⟩ = true) (h0 : d = 1 ∨ d = 2) : rightC ⟨r, m, n, d, ⟨f, g, b⟩⟩ = (decide (wOf r = d) && marksC m n) := by
  unfold rightC; simp only [h, Bool.true_and]; rw [if_neg (by omega), if_pos]; unfold bearsC; simpa using h0
theorem rightC_more (r m n : Int) (d f g b : Nat) (h0 : ¬ d = 0) (h1 : ¬ d = 1) (h2 : ¬ d = 2) : rightC ⟨r, m, n, d, ⟨f, g, b⟩⟩ = false := by
  unfold rightC; rw [if_neg h0, if_neg]; simp; unfold bearsC; simp [h1, h2]
theorem one_new (w : World) (t : TypeId) (l : List Value) : Below w.heap.size w (w.alloc (.cells l.toArray t)) := (Below.refl _ _).alloc (Nat.le_refl _) _
theorem cright_any (r m n : Int) (d f g b : Nat) (hd : d < 256) (w : World) (hS : Spans w) : Calls Tryd.prog 26 #[.agg #[.int .i32 r, .int .i32 m, .int .i32 n, .int .u8 (d : Int), .int .u8 (f : Int), .int .u8 (g : Int), .int .u8 (b : Int)]] w (Said (rightC ⟨r, m, n, d, ⟨f, g, b⟩⟩) w) := by
  obtain ⟨W0, hW0⟩ : ∃ W0, w.alloc (.cells #[.int .i32 r, .int .i32 m, .int .i32 n, .int .u8 (d : Int), .int .u8 (f : Int), .int .u8 (g : Int), .int .u8 (b : Int)] 60) = W0 := ⟨_, rfl⟩
  have HS : Hid (Spans W0) := by unfold Hid; rw [← hW0]; exact hS.alloc _
  have HB : Hid (Below w.heap.size w W0) := by unfold Hid; rw [← hW0]; exact one_new w _ [.int .i32 r, .int .i32 m, .int .i32 n, .int .u8 (d : Int), .int .u8 (f : Int), .int .u8 (g : Int), .int .u8 (b : Int)]
  have HC : Hid (Whole W0 w.heap.size 60 [.int .i32 r, .int .i32 m, .int .i32 n, .int .u8 (d : Int), .int .u8 (f : Int), .int .u8 (g : Int), .int .u8 (b : Int)]) := by unfold Hid; rw [← hW0]; exact Whole.new w 60 [.int .i32 r, .int .i32 m, .int .i32 n, .int .u8 (d : Int), .int .u8 (f : Int), .int .u8 (g : Int), .int .u8 (b : Int)]
  have HW0 := hide hW0
  clear hS hW0
  have hd1 : (0 : Int) ≤ (d : Int) := by omega
  have hd2 : (d : Int) ≤ 255 := by omega
  have eC := eqlCell
  cases hp : rightN ⟨f, g, b⟩
  case false =>
    have E := hide (rightC_pen ⟨r, m, n, d, ⟨f, g, b⟩⟩ hp)
    have HP := hide hp
    clear hp
    go_enter Tryd.func26, Tryd.ntmps26
    go_wp2_with fail
    rw [HW0.out]
    refine (right_any f g b _).mono ?_
    rintro e w1 ⟨rfl, hb1⟩
    rw [HP.out]
    have HC1 := hide (HC.out.later hb1)
    have HS1 := hide (HS.out.below hb1)
    have HB1 := hide (HB.out.trans (hb1.mono HB.out.size))
    obtain ⟨c0, c1, c2, c3, c4, c5, c6, cz⟩ := cells7 HC1.out
    clear hb1 cz
    go_wp2
    go_ret
    exact ⟨ret_bool E.out.symm, HB1.out⟩
  case true =>
    have HP := hide hp
    by_cases h0 : d = 0
    · have E := hide (rightC_half r m n d f g b hp h0)
      have e0 : ((d : Int) == 0) = true := by simp; omega
      have HD0 := hide h0
      clear hp h0
      go_enter Tryd.func26, Tryd.ntmps26
      go_wp2_with fail
      rw [HW0.out]
      refine (right_any f g b _).mono ?_
      rintro e w1 ⟨rfl, hb1⟩
      rw [HP.out]
      have HC1 := hide (HC.out.later hb1)
      have HS1 := hide (HS.out.below hb1)
      have HB1 := hide (HB.out.trans (hb1.mono HB.out.size))
      obtain ⟨c0, c1, c2, c3, c4, c5, c6, cz⟩ := cells7 HC1.out
      clear hb1 cz
      go_wp2
      refine rgH (fun w' => Below w1.heap.size w1 w') [(true, 0), (false, 1), (false, 2), (false, 3), (false, 4)] ((Below.refl _ _).drewN 1) ?_
      refine stH (hy := fun w hS => by obtain ⟨a0, a1, a2, a3, a4, a5, a6, -⟩ := cells7 (HC1.out.later hS); go_simp <;> with_reducible rfl) (h := ?_)
      refine alH fun K hK => ?_
      go_wp2
      refine hK.out _ _ ((Below.refl _ _).drewN 1) ?_
      clear hK K
      refine alH fun K hK => ?_
      go_wp2_with fail
      refine (rest_any r m n d f g b _).mono ?_
      rintro e w2 ⟨rfl, hb⟩
      have Bw2 : Below w1.heap.size w1 w2 := ((Below.refl _ _).drewN 1).trans hb
      clear hb
      go_wp2
      refine hK.out _ _ Bw2 ?_
      clear hK K
      refine alH fun K hK => ?_
      go_wp2
      refine hK.out _ _ Bw2 ?_
      clear hK K
      refine alH fun K hK => ?_
      go_wp2
      refine hK.out _ _ Bw2 ?_
      clear hK K
      refine chainH_nil ?_
      go_wp2
      go_ret
      exact ⟨ret_bool (by rw [E.out, eqC_iff, HD0.out]; simp [restC]), HB1.out.trans (Bw2.mono HB1.out.size)⟩
    · have e0 : ((d : Int) == 0) = false := by simp; omega
      by_cases h1 : d = 1
      · have E := hide (rightC_bears r m n d f g b hp (.inl h1))
        have e1 : ((d : Int) == 1) = true := by simp; omega
        obtain ⟨P1, hP1⟩ : ∃ P1, wOf r = P1 := ⟨_, rfl⟩
        have HX := hide hP1
        by_cases hq : P1 = d
        · have hqq : (P1 == (d : Int)) = true := by simpa using hq
          have E2 : Hid (rightC ⟨r, m, n, d, ⟨f, g, b⟩⟩ = marksC m n) := by unfold Hid; rw [E.out, HX.out, decide_eq_true hq]; rfl
          clear hp hP1 hq h0 h1
          go_enter Tryd.func26, Tryd.ntmps26
          go_wp2_with fail
          rw [HW0.out]
          refine (right_any f g b _).mono ?_
          rintro e w1 ⟨rfl, hb1⟩
          rw [HP.out]
          have HC1 := hide (HC.out.later hb1)
          have HS1 := hide (HS.out.below hb1)
          have HB1 := hide (HB.out.trans (hb1.mono HB.out.size))
          obtain ⟨c0, c1, c2, c3, c4, c5, c6, cz⟩ := cells7 HC1.out
          clear hb1 cz
          go_wp2
          refine rgH (fun w' => Below w1.heap.size w1 w') [(true, 0), (true, 3), (true, 1), (true, 4), (true, 5), (false, 2), (false, 6), (false, 7), (false, 8), (false, 9), (false, 10), (false, 11), (false, 12)] ((Below.refl _ _).drewN 1) ?_
          refine stH (h := ?_)
          refine stH (h := ?_)
          refine stH (hy := fun w hS => by obtain ⟨a0, a1, a2, a3, a4, a5, a6, -⟩ := cells7 (HC1.out.later hS); go_simp <;> with_reducible rfl) (h := ?_)
          refine stH (hy := fun w hS => by obtain ⟨a0, a1, a2, a3, a4, a5, a6, -⟩ := cells7 (HC1.out.later hS); go_simp <;> with_reducible rfl) (h := ?_)
          refine stH (h := ?_)
          refine alH fun K hK => ?_
          go_wp2_with fail
          refine (of_any r _ (HS1.out.drewN 1)).mono ?_
          rintro e w2 ⟨rfl, hb⟩
          rw [HX.out]
          have Bw2 : Below w1.heap.size w1 w2 := ((Below.refl _ _).drewN 1).trans hb
          clear hb
          obtain ⟨i0, i1, i2, i3, i4, i5, i6, -⟩ := cells7 (HC1.out.later Bw2)
          go_wp2
          refine hK.out _ _ Bw2 ?_
          clear hK K
          refine alH fun K hK => ?_
          go_wp2
          refine hK.out _ _ Bw2 ?_
          clear hK K
          refine alH fun K hK => ?_
          go_wp2
          refine hK.out _ _ Bw2 ?_
          clear hK K
          refine alH fun K hK => ?_
          go_wp2
          refine hK.out _ _ Bw2 ?_
          clear hK K
          refine alH fun K hK => ?_
          go_wp2
          refine hK.out _ _ Bw2 ?_
          clear hK K
          refine alH fun K hK => ?_
          go_wp2_with fail
          refine (rmarks_any m n _ (HS1.out.below Bw2)).mono ?_
          rintro e w3 ⟨rfl, hb⟩
          have Bw3 : Below w1.heap.size w1 w3 := Bw2.trans (hb.mono Bw2.size)
          clear hb
          go_wp2
          refine hK.out _ _ Bw3 ?_
          clear hK K
          refine alH fun K hK => ?_
          go_wp2
          refine hK.out _ _ Bw3 ?_
          clear hK K
          refine alH fun K hK => ?_
          go_wp2
          refine hK.out _ _ Bw3 ?_
          clear hK K
          refine chainH_nil ?_
          go_wp2
          go_ret
          exact ⟨ret_bool E2.out.symm, HB1.out.trans (Bw3.mono HB1.out.size)⟩
        · have hqq : (P1 == (d : Int)) = false := by simpa using hq
          have E2 : Hid (rightC ⟨r, m, n, d, ⟨f, g, b⟩⟩ = false) := by unfold Hid; rw [E.out, HX.out, decide_eq_false hq]; rfl
          clear hp hP1 hq h0 h1
          go_enter Tryd.func26, Tryd.ntmps26
          go_wp2_with fail
          rw [HW0.out]
          refine (right_any f g b _).mono ?_
          rintro e w1 ⟨rfl, hb1⟩
          rw [HP.out]
          have HC1 := hide (HC.out.later hb1)
          have HS1 := hide (HS.out.below hb1)
          have HB1 := hide (HB.out.trans (hb1.mono HB.out.size))
          obtain ⟨c0, c1, c2, c3, c4, c5, c6, cz⟩ := cells7 HC1.out
          clear hb1 cz
          go_wp2
          refine rgH (fun w' => Below w1.heap.size w1 w') [(true, 0), (true, 3), (true, 1), (true, 4), (true, 5), (false, 2), (false, 6), (false, 7), (false, 8), (false, 9), (false, 10), (false, 11), (false, 12)] ((Below.refl _ _).drewN 1) ?_
          refine stH (h := ?_)
          refine stH (h := ?_)
          refine stH (hy := fun w hS => by obtain ⟨a0, a1, a2, a3, a4, a5, a6, -⟩ := cells7 (HC1.out.later hS); go_simp <;> with_reducible rfl) (h := ?_)
          refine stH (hy := fun w hS => by obtain ⟨a0, a1, a2, a3, a4, a5, a6, -⟩ := cells7 (HC1.out.later hS); go_simp <;> with_reducible rfl) (h := ?_)
          refine stH (h := ?_)
          refine alH fun K hK => ?_
          go_wp2_with fail
          refine (of_any r _ (HS1.out.drewN 1)).mono ?_
          rintro e w2 ⟨rfl, hb⟩
          rw [HX.out]
          have Bw2 : Below w1.heap.size w1 w2 := ((Below.refl _ _).drewN 1).trans hb
          clear hb
          obtain ⟨i0, i1, i2, i3, i4, i5, i6, -⟩ := cells7 (HC1.out.later Bw2)
          go_wp2
          refine hK.out _ _ Bw2 ?_
          clear hK K
          refine alH fun K hK => ?_
          go_wp2
          refine hK.out _ _ Bw2 ?_
          clear hK K
          refine alH fun K hK => ?_
          go_wp2
          refine hK.out _ _ Bw2 ?_
          clear hK K
          rw [hqq]
          refine paH Bw2 (h := ?_)
          refine paH Bw2 (h := ?_)
          refine paH Bw2 (h := ?_)
          refine alH fun K hK => ?_
          go_wp2
          refine hK.out _ _ Bw2 ?_
          clear hK K
          refine alH fun K hK => ?_
          go_wp2
          refine hK.out _ _ Bw2 ?_
          clear hK K
          refine chainH_nil ?_
          go_wp2
          go_ret
          exact ⟨ret_bool E2.out.symm, HB1.out.trans (Bw2.mono HB1.out.size)⟩
      · have e1 : ((d : Int) == 1) = false := by simp; omega
        by_cases h2 : d = 2
        · have E := hide (rightC_bears r m n d f g b hp (.inr h2))
          have e2 : ((d : Int) == 2) = true := by simp; omega
          obtain ⟨P1, hP1⟩ : ∃ P1, wOf r = P1 := ⟨_, rfl⟩
          have HX := hide hP1
          by_cases hq : P1 = d
          · have hqq : (P1 == (d : Int)) = true := by simpa using hq
            have E2 : Hid (rightC ⟨r, m, n, d, ⟨f, g, b⟩⟩ = marksC m n) := by unfold Hid; rw [E.out, HX.out, decide_eq_true hq]; rfl
            clear hp hP1 hq h0 h1 h2
            go_enter Tryd.func26, Tryd.ntmps26
            go_wp2_with fail
            rw [HW0.out]
            refine (right_any f g b _).mono ?_
            rintro e w1 ⟨rfl, hb1⟩
            rw [HP.out]
            have HC1 := hide (HC.out.later hb1)
            have HS1 := hide (HS.out.below hb1)
            have HB1 := hide (HB.out.trans (hb1.mono HB.out.size))
            obtain ⟨c0, c1, c2, c3, c4, c5, c6, cz⟩ := cells7 HC1.out
            clear hb1 cz
            go_wp2
            refine rgH (fun w' => Below w1.heap.size w1 w') [(true, 0), (true, 3), (true, 1), (true, 4), (true, 5), (false, 2), (false, 6), (false, 7), (false, 8), (false, 9), (false, 10), (false, 11), (false, 12)] ((Below.refl _ _).drewN 1) ?_
            refine stH (h := ?_)
            refine stH (h := ?_)
            refine stH (hy := fun w hS => by obtain ⟨a0, a1, a2, a3, a4, a5, a6, -⟩ := cells7 (HC1.out.later hS); go_simp <;> with_reducible rfl) (h := ?_)
            refine stH (hy := fun w hS => by obtain ⟨a0, a1, a2, a3, a4, a5, a6, -⟩ := cells7 (HC1.out.later hS); go_simp <;> with_reducible rfl) (h := ?_)
            refine stH (h := ?_)
            refine alH fun K hK => ?_
            go_wp2_with fail
            refine (of_any r _ (HS1.out.drewN 1)).mono ?_
            rintro e w2 ⟨rfl, hb⟩
            rw [HX.out]
            have Bw2 : Below w1.heap.size w1 w2 := ((Below.refl _ _).drewN 1).trans hb
            clear hb
            obtain ⟨i0, i1, i2, i3, i4, i5, i6, -⟩ := cells7 (HC1.out.later Bw2)
            go_wp2
            refine hK.out _ _ Bw2 ?_
            clear hK K
            refine alH fun K hK => ?_
            go_wp2
            refine hK.out _ _ Bw2 ?_
            clear hK K
            refine alH fun K hK => ?_
            go_wp2
            refine hK.out _ _ Bw2 ?_
            clear hK K
            refine alH fun K hK => ?_
            go_wp2
            refine hK.out _ _ Bw2 ?_
            clear hK K
            refine alH fun K hK => ?_
            go_wp2
            refine hK.out _ _ Bw2 ?_
            clear hK K
            refine alH fun K hK => ?_
            go_wp2_with fail
            refine (rmarks_any m n _ (HS1.out.below Bw2)).mono ?_
            rintro e w3 ⟨rfl, hb⟩
            have Bw3 : Below w1.heap.size w1 w3 := Bw2.trans (hb.mono Bw2.size)
            clear hb
            go_wp2
            refine hK.out _ _ Bw3 ?_
            clear hK K
            refine alH fun K hK => ?_
            go_wp2
            refine hK.out _ _ Bw3 ?_
            clear hK K
            refine alH fun K hK => ?_
            go_wp2
            refine hK.out _ _ Bw3 ?_
            clear hK K
            refine chainH_nil ?_
            go_wp2
            go_ret
            exact ⟨ret_bool E2.out.symm, HB1.out.trans (Bw3.mono HB1.out.size)⟩
          · have hqq : (P1 == (d : Int)) = false := by simpa using hq
            have E2 : Hid (rightC ⟨r, m, n, d, ⟨f, g, b⟩⟩ = false) := by unfold Hid; rw [E.out, HX.out, decide_eq_false hq]; rfl
            clear hp hP1 hq h0 h1 h2
            go_enter Tryd.func26, Tryd.ntmps26
            go_wp2_with fail
            rw [HW0.out]
            refine (right_any f g b _).mono ?_
            rintro e w1 ⟨rfl, hb1⟩
            rw [HP.out]
            have HC1 := hide (HC.out.later hb1)
            have HS1 := hide (HS.out.below hb1)
            have HB1 := hide (HB.out.trans (hb1.mono HB.out.size))
            obtain ⟨c0, c1, c2, c3, c4, c5, c6, cz⟩ := cells7 HC1.out
            clear hb1 cz
            go_wp2
            refine rgH (fun w' => Below w1.heap.size w1 w') [(true, 0), (true, 3), (true, 1), (true, 4), (true, 5), (false, 2), (false, 6), (false, 7), (false, 8), (false, 9), (false, 10), (false, 11), (false, 12)] ((Below.refl _ _).drewN 1) ?_
            refine stH (h := ?_)
            refine stH (h := ?_)
            refine stH (hy := fun w hS => by obtain ⟨a0, a1, a2, a3, a4, a5, a6, -⟩ := cells7 (HC1.out.later hS); go_simp <;> with_reducible rfl) (h := ?_)
            refine stH (hy := fun w hS => by obtain ⟨a0, a1, a2, a3, a4, a5, a6, -⟩ := cells7 (HC1.out.later hS); go_simp <;> with_reducible rfl) (h := ?_)
            refine stH (h := ?_)
            refine alH fun K hK => ?_
            go_wp2_with fail
            refine (of_any r _ (HS1.out.drewN 1)).mono ?_
            rintro e w2 ⟨rfl, hb⟩
            rw [HX.out]
            have Bw2 : Below w1.heap.size w1 w2 := ((Below.refl _ _).drewN 1).trans hb
            clear hb
            obtain ⟨i0, i1, i2, i3, i4, i5, i6, -⟩ := cells7 (HC1.out.later Bw2)
            go_wp2
            refine hK.out _ _ Bw2 ?_
            clear hK K
            refine alH fun K hK => ?_
            go_wp2
            refine hK.out _ _ Bw2 ?_
            clear hK K
            refine alH fun K hK => ?_
            go_wp2
            refine hK.out _ _ Bw2 ?_
            clear hK K
            rw [hqq]
            refine paH Bw2 (h := ?_)
            refine paH Bw2 (h := ?_)
            refine paH Bw2 (h := ?_)
            refine alH fun K hK => ?_
            go_wp2
            refine hK.out _ _ Bw2 ?_
            clear hK K
            refine alH fun K hK => ?_
            go_wp2
            refine hK.out _ _ Bw2 ?_
            clear hK K
            refine chainH_nil ?_
            go_wp2
            go_ret
            exact ⟨ret_bool E2.out.symm, HB1.out.trans (Bw2.mono HB1.out.size)⟩
        · have e2 : ((d : Int) == 2) = false := by simp; omega
          have E := hide (rightC_more r m n d f g b h0 h1 h2)
          clear hp h0 h1 h2
          go_enter Tryd.func26, Tryd.ntmps26
          go_wp2_with fail
          rw [HW0.out]
          refine (right_any f g b _).mono ?_
          rintro e w1 ⟨rfl, hb1⟩
          rw [HP.out]
          have HC1 := hide (HC.out.later hb1)
          have HS1 := hide (HS.out.below hb1)
          have HB1 := hide (HB.out.trans (hb1.mono HB.out.size))
          obtain ⟨c0, c1, c2, c3, c4, c5, c6, cz⟩ := cells7 HC1.out
          clear hb1 cz
          go_wp2
          go_ret
          exact ⟨ret_bool E.out.symm, HB1.out⟩
theorem rcright_any (r m n : Int) (d f g b : Nat) (hd : d < 256) (w : World) : Calls Tryd.prog 34 #[.agg #[.int .i64 r, .int .i64 m, .int .i64 n, .int .u8 (d : Int), .int .u8 (f : Int), .int .u8 (g : Int), .int .u8 (b : Int)]] w (Said (rightC ⟨r, m, n, d, ⟨f, g, b⟩⟩) w) := by
  obtain ⟨W0, hW0⟩ : ∃ W0, w.alloc (.cells #[.int .i64 r, .int .i64 m, .int .i64 n, .int .u8 (d : Int), .int .u8 (f : Int), .int .u8 (g : Int), .int .u8 (b : Int)] 66) = W0 := ⟨_, rfl⟩
  have HB : Hid (Below w.heap.size w W0) := by unfold Hid; rw [← hW0]; exact one_new w _ [.int .i64 r, .int .i64 m, .int .i64 n, .int .u8 (d : Int), .int .u8 (f : Int), .int .u8 (g : Int), .int .u8 (b : Int)]
  have HC : Hid (Whole W0 w.heap.size 66 [.int .i64 r, .int .i64 m, .int .i64 n, .int .u8 (d : Int), .int .u8 (f : Int), .int .u8 (g : Int), .int .u8 (b : Int)]) := by unfold Hid; rw [← hW0]; exact Whole.new w 66 [.int .i64 r, .int .i64 m, .int .i64 n, .int .u8 (d : Int), .int .u8 (f : Int), .int .u8 (g : Int), .int .u8 (b : Int)]
  have HW0 := hide hW0
  clear hW0
  have hd1 : (0 : Int) ≤ (d : Int) := by omega
  have hd2 : (d : Int) ≤ 255 := by omega
  cases hp : rightN ⟨f, g, b⟩
  case false =>
    have E := hide (rightC_pen ⟨r, m, n, d, ⟨f, g, b⟩⟩ hp)
    have HP := hide hp
    clear hp
    go_enter Tryd.func34, Tryd.ntmps34
    go_wp2_with fail
    rw [HW0.out]
    refine (rright_any f g b _).mono ?_
    rintro e w1 ⟨rfl, hb1⟩
    rw [HP.out]
    have HC1 := hide (HC.out.later hb1)
    have HB1 := hide (HB.out.trans (hb1.mono HB.out.size))
    obtain ⟨c0, c1, c2, c3, c4, c5, c6, cz⟩ := cells7 HC1.out
    clear hb1 cz
    go_wp2
    go_ret
    exact ⟨ret_bool E.out.symm, HB1.out⟩
  case true =>
    have HP := hide hp
    by_cases h3 : (2 : Int) < (d : Int)
    · have E := hide (rightC_more r m n d f g b (by omega) (by omega) (by omega))
      clear hp
      go_enter Tryd.func34, Tryd.ntmps34
      go_wp2_with fail
      rw [HW0.out]
      refine (rright_any f g b _).mono ?_
      rintro e w1 ⟨rfl, hb1⟩
      rw [HP.out]
      have HC1 := hide (HC.out.later hb1)
      have HB1 := hide (HB.out.trans (hb1.mono HB.out.size))
      obtain ⟨c0, c1, c2, c3, c4, c5, c6, cz⟩ := cells7 HC1.out
      clear hb1 cz
      go_wp2
      go_ret
      exact ⟨ret_bool E.out.symm, HB1.out⟩
    · by_cases h0 : d = 0
      · have E := hide (rightC_half r m n d f g b hp h0)
        have e0 : ((d : Int) == 0) = true := by simp; omega
        by_cases hr : r = 0
        · by_cases hm : m = 0
          · by_cases hn : n = 0
            · have E2 : Hid (rightC ⟨r, m, n, d, ⟨f, g, b⟩⟩ = true) := by unfold Hid; rw [E.out]; simp [hr, hm, hn]
              have q1 : (r == 0) = true := by simpa using hr
              have q2 : (m == 0) = true := by simpa using hm
              have q3 : (n == 0) = true := by simpa using hn
              clear hp h0 hr hm hn
              go_enter Tryd.func34, Tryd.ntmps34
              go_wp2_with fail
              rw [HW0.out]
              refine (rright_any f g b _).mono ?_
              rintro e w1 ⟨rfl, hb1⟩
              rw [HP.out]
              have HC1 := hide (HC.out.later hb1)
              have HB1 := hide (HB.out.trans (hb1.mono HB.out.size))
              obtain ⟨c0, c1, c2, c3, c4, c5, c6, cz⟩ := cells7 HC1.out
              clear hb1 cz
              go_wp2
              go_ret
              exact ⟨ret_bool E2.out.symm, HB1.out⟩
            · have E2 : Hid (rightC ⟨r, m, n, d, ⟨f, g, b⟩⟩ = false) := by unfold Hid; rw [E.out]; simp [hr, hm, hn]
              have q1 : (r == 0) = true := by simpa using hr
              have q2 : (m == 0) = true := by simpa using hm
              have q3 : (n == 0) = false := by simpa using hn
              clear hp h0 hr hm hn
              go_enter Tryd.func34, Tryd.ntmps34
              go_wp2_with fail
              rw [HW0.out]
              refine (rright_any f g b _).mono ?_
              rintro e w1 ⟨rfl, hb1⟩
              rw [HP.out]
              have HC1 := hide (HC.out.later hb1)
              have HB1 := hide (HB.out.trans (hb1.mono HB.out.size))
              obtain ⟨c0, c1, c2, c3, c4, c5, c6, cz⟩ := cells7 HC1.out
              clear hb1 cz
              go_wp2
              go_ret
              exact ⟨ret_bool E2.out.symm, HB1.out⟩
          · have E2 : Hid (rightC ⟨r, m, n, d, ⟨f, g, b⟩⟩ = false) := by unfold Hid; rw [E.out]; simp [hr, hm]
            have q1 : (r == 0) = true := by simpa using hr
            have q2 : (m == 0) = false := by simpa using hm
            clear hp h0 hr hm
            go_enter Tryd.func34, Tryd.ntmps34
            go_wp2_with fail
            rw [HW0.out]
            refine (rright_any f g b _).mono ?_
            rintro e w1 ⟨rfl, hb1⟩
            rw [HP.out]
            have HC1 := hide (HC.out.later hb1)
            have HB1 := hide (HB.out.trans (hb1.mono HB.out.size))
            obtain ⟨c0, c1, c2, c3, c4, c5, c6, cz⟩ := cells7 HC1.out
            clear hb1 cz
            go_wp2
            go_ret
            exact ⟨ret_bool E2.out.symm, HB1.out⟩
        · have E2 : Hid (rightC ⟨r, m, n, d, ⟨f, g, b⟩⟩ = false) := by unfold Hid; rw [E.out]; simp [hr]
          have q1 : (r == 0) = false := by simpa using hr
          clear hp h0 hr
          go_enter Tryd.func34, Tryd.ntmps34
          go_wp2_with fail
          rw [HW0.out]
          refine (rright_any f g b _).mono ?_
          rintro e w1 ⟨rfl, hb1⟩
          rw [HP.out]
          have HC1 := hide (HC.out.later hb1)
          have HB1 := hide (HB.out.trans (hb1.mono HB.out.size))
          obtain ⟨c0, c1, c2, c3, c4, c5, c6, cz⟩ := cells7 HC1.out
          clear hb1 cz
          go_wp2
          go_ret
          exact ⟨ret_bool E2.out.symm, HB1.out⟩
      · have e0 : ((d : Int) == 0) = false := by simp; omega
        have E := hide (rightC_bears r m n d f g b hp (by omega))
        obtain ⟨P1, hP1⟩ : ∃ P1, wOf r = P1 := ⟨_, rfl⟩
        have HX := hide hP1
        by_cases hq : P1 = d
        · have hqq : (P1 != (d : Int)) = false := by simpa using hq
          by_cases hm : m = 0
          · have q2 : (m == 0) = true := by simpa using hm
            by_cases hn : n = 0
            · have E3 : Hid (rightC ⟨r, m, n, d, ⟨f, g, b⟩⟩ = true) := by unfold Hid; rw [E.out, HX.out, decide_eq_true hq]; unfold marksC; simp [hm, hn]
              have q3 : (n == 0) = true := by simpa using hn
              clear hp hP1 hq h0 hm hn
              go_enter Tryd.func34, Tryd.ntmps34
              go_wp2_with fail
              rw [HW0.out]
              refine (rright_any f g b _).mono ?_
              rintro e w1 ⟨rfl, hb1⟩
              rw [HP.out]
              have HC1 := hide (HC.out.later hb1)
              have HB1 := hide (HB.out.trans (hb1.mono HB.out.size))
              obtain ⟨c0, c1, c2, c3, c4, c5, c6, cz⟩ := cells7 HC1.out
              clear hb1 cz
              go_wp2
              refine rgH (fun w' => Below w1.heap.size w1 w') [(true, 0), (true, 3), (true, 1), (true, 4), (true, 5), (false, 2), (false, 6)] ((Below.refl _ _).drewN 1) ?_
              refine stH (h := ?_)
              refine stH (h := ?_)
              refine stH (hy := fun w hS => by obtain ⟨a0, a1, a2, a3, a4, a5, a6, -⟩ := cells7 (HC1.out.later hS); go_simp <;> with_reducible rfl) (h := ?_)
              refine stH (hy := fun w hS => by obtain ⟨a0, a1, a2, a3, a4, a5, a6, -⟩ := cells7 (HC1.out.later hS); go_simp <;> with_reducible rfl) (h := ?_)
              refine stH (h := ?_)
              refine alH fun K hK => ?_
              go_wp2_with fail
              refine (rof_any r _).mono ?_
              rintro e w2 ⟨rfl, hb⟩
              rw [HX.out]
              have Bw2 : Below w1.heap.size w1 w2 := ((Below.refl _ _).drewN 1).trans hb
              clear hb
              go_wp2
              refine hK.out _ _ Bw2 ?_
              clear hK K
              refine alH fun K hK => ?_
              go_wp2
              refine hK.out _ _ Bw2 ?_
              clear hK K
              refine chainH_nil ?_
              replace HB1 := hide (HB1.out.trans (Bw2.mono HB1.out.size))
              replace HC1 := hide (HC1.out.later Bw2)
              clear Bw2 c0 c1 c2 c3 c4 c5 c6
              obtain ⟨c0, c1, c2, c3, c4, c5, c6, cz⟩ := cells7 HC1.out
              clear cz
              go_wp2
              go_quiet (fail)
              have HB2 := hide (HB1.out.drewN nq)
              go_wp2
              go_ret
              exact ⟨ret_bool E3.out.symm, HB2.out⟩
            · have E3 : Hid (rightC ⟨r, m, n, d, ⟨f, g, b⟩⟩ = false) := by unfold Hid; rw [E.out, HX.out, decide_eq_true hq]; unfold marksC; simp [hm, hn]
              have q3 : (n == 0) = false := by simpa using hn
              have HM : Hid (wOf m = -1) := by unfold Hid; rw [hm]; exact wOf_zero
              clear hp hP1 hq h0 hm hn
              go_enter Tryd.func34, Tryd.ntmps34
              go_wp2_with fail
              rw [HW0.out]
              refine (rright_any f g b _).mono ?_
              rintro e w1 ⟨rfl, hb1⟩
              rw [HP.out]
              have HC1 := hide (HC.out.later hb1)
              have HB1 := hide (HB.out.trans (hb1.mono HB.out.size))
              obtain ⟨c0, c1, c2, c3, c4, c5, c6, cz⟩ := cells7 HC1.out
              clear hb1 cz
              go_wp2
              refine rgH (fun w' => Below w1.heap.size w1 w') [(true, 0), (true, 3), (true, 1), (true, 4), (true, 5), (false, 2), (false, 6)] ((Below.refl _ _).drewN 1) ?_
              refine stH (h := ?_)
              refine stH (h := ?_)
              refine stH (hy := fun w hS => by obtain ⟨a0, a1, a2, a3, a4, a5, a6, -⟩ := cells7 (HC1.out.later hS); go_simp <;> with_reducible rfl) (h := ?_)
              refine stH (hy := fun w hS => by obtain ⟨a0, a1, a2, a3, a4, a5, a6, -⟩ := cells7 (HC1.out.later hS); go_simp <;> with_reducible rfl) (h := ?_)
              refine stH (h := ?_)
              refine alH fun K hK => ?_
              go_wp2_with fail
              refine (rof_any r _).mono ?_
              rintro e w2 ⟨rfl, hb⟩
              rw [HX.out]
              have Bw2 : Below w1.heap.size w1 w2 := ((Below.refl _ _).drewN 1).trans hb
              clear hb
              go_wp2
              refine hK.out _ _ Bw2 ?_
              clear hK K
              refine alH fun K hK => ?_
              go_wp2
              refine hK.out _ _ Bw2 ?_
              clear hK K
              refine chainH_nil ?_
              replace HB1 := hide (HB1.out.trans (Bw2.mono HB1.out.size))
              replace HC1 := hide (HC1.out.later Bw2)
              clear Bw2 c0 c1 c2 c3 c4 c5 c6
              obtain ⟨c0, c1, c2, c3, c4, c5, c6, cz⟩ := cells7 HC1.out
              clear cz
              go_wp2
              go_quiet (fail)
              have HB2 := hide (HB1.out.drewN nq)
              go_wp2_with fail
              refine (rof_any m _).mono ?_
              rintro e w3 ⟨rfl, hb⟩
              rw [HM.out]
              have HB3 := hide (HB2.out.trans (hb.mono HB2.out.size))
              clear hb
              go_wp2
              go_ret
              exact ⟨ret_bool E3.out.symm, HB3.out⟩
          · have q2 : (m == 0) = false := by simpa using hm
            have q4 : (m != 0) = true := by simpa using hm
            obtain ⟨P2, hP2⟩ : ∃ P2, wOf m = P2 := ⟨_, rfl⟩
            have HM := hide hP2
            by_cases hz : P2 = 0
            · have q5 : (P2 == 0) = true := by simpa using hz
              by_cases hn : n = 0
              · have E3 : Hid (rightC ⟨r, m, n, d, ⟨f, g, b⟩⟩ = true) := by unfold Hid; rw [E.out, HX.out, decide_eq_true hq]; unfold marksC; simp [hm, hn, hP2, hz]
                have q3 : (n == 0) = true := by simpa using hn
                clear hp hP1 hq h0 hP2 hm hn hz
                go_enter Tryd.func34, Tryd.ntmps34
                go_wp2_with fail
                rw [HW0.out]
                refine (rright_any f g b _).mono ?_
                rintro e w1 ⟨rfl, hb1⟩
                rw [HP.out]
                have HC1 := hide (HC.out.later hb1)
                have HB1 := hide (HB.out.trans (hb1.mono HB.out.size))
                obtain ⟨c0, c1, c2, c3, c4, c5, c6, cz⟩ := cells7 HC1.out
                clear hb1 cz
                go_wp2
                refine rgH (fun w' => Below w1.heap.size w1 w') [(true, 0), (true, 3), (true, 1), (true, 4), (true, 5), (false, 2), (false, 6)] ((Below.refl _ _).drewN 1) ?_
                refine stH (h := ?_)
                refine stH (h := ?_)
                refine stH (hy := fun w hS => by obtain ⟨a0, a1, a2, a3, a4, a5, a6, -⟩ := cells7 (HC1.out.later hS); go_simp <;> with_reducible rfl) (h := ?_)
                refine stH (hy := fun w hS => by obtain ⟨a0, a1, a2, a3, a4, a5, a6, -⟩ := cells7 (HC1.out.later hS); go_simp <;> with_reducible rfl) (h := ?_)
                refine stH (h := ?_)
                refine alH fun K hK => ?_
                go_wp2_with fail
                refine (rof_any r _).mono ?_
                rintro e w2 ⟨rfl, hb⟩
                rw [HX.out]
                have Bw2 : Below w1.heap.size w1 w2 := ((Below.refl _ _).drewN 1).trans hb
                clear hb
                go_wp2
                refine hK.out _ _ Bw2 ?_
                clear hK K
                refine alH fun K hK => ?_
                go_wp2
                refine hK.out _ _ Bw2 ?_
                clear hK K
                refine chainH_nil ?_
                replace HB1 := hide (HB1.out.trans (Bw2.mono HB1.out.size))
                replace HC1 := hide (HC1.out.later Bw2)
                clear Bw2 c0 c1 c2 c3 c4 c5 c6
                obtain ⟨c0, c1, c2, c3, c4, c5, c6, cz⟩ := cells7 HC1.out
                clear cz
                go_wp2
                go_quiet (fail)
                have HB2 := hide (HB1.out.drewN nq)
                go_wp2_with fail
                refine (rof_any m _).mono ?_
                rintro e w3 ⟨rfl, hb⟩
                rw [HM.out]
                have HB3 := hide (HB2.out.trans (hb.mono HB2.out.size))
                clear hb
                go_wp2
                go_ret
                exact ⟨ret_bool E3.out.symm, HB3.out⟩
              · have q3 : (n == 0) = false := by simpa using hn
                obtain ⟨P3, hP3⟩ : ∃ P3, wOf n = P3 := ⟨_, rfl⟩
                have HN := hide hP3
                have E3 : Hid (rightC ⟨r, m, n, d, ⟨f, g, b⟩⟩ = (P3 == 0)) := by unfold Hid; rw [E.out, HX.out, decide_eq_true hq]; unfold marksC; simp [hm, hn, hP2, hz, hP3]; rfl
                clear hp hP1 hq h0 hP2 hP3 hm hn hz
                go_enter Tryd.func34, Tryd.ntmps34
                go_wp2_with fail
                rw [HW0.out]
                refine (rright_any f g b _).mono ?_
                rintro e w1 ⟨rfl, hb1⟩
                rw [HP.out]
                have HC1 := hide (HC.out.later hb1)
                have HB1 := hide (HB.out.trans (hb1.mono HB.out.size))
                obtain ⟨c0, c1, c2, c3, c4, c5, c6, cz⟩ := cells7 HC1.out
                clear hb1 cz
                go_wp2
                refine rgH (fun w' => Below w1.heap.size w1 w') [(true, 0), (true, 3), (true, 1), (true, 4), (true, 5), (false, 2), (false, 6)] ((Below.refl _ _).drewN 1) ?_
                refine stH (h := ?_)
                refine stH (h := ?_)
                refine stH (hy := fun w hS => by obtain ⟨a0, a1, a2, a3, a4, a5, a6, -⟩ := cells7 (HC1.out.later hS); go_simp <;> with_reducible rfl) (h := ?_)
                refine stH (hy := fun w hS => by obtain ⟨a0, a1, a2, a3, a4, a5, a6, -⟩ := cells7 (HC1.out.later hS); go_simp <;> with_reducible rfl) (h := ?_)
                refine stH (h := ?_)
                refine alH fun K hK => ?_
                go_wp2_with fail
                refine (rof_any r _).mono ?_
                rintro e w2 ⟨rfl, hb⟩
                rw [HX.out]
                have Bw2 : Below w1.heap.size w1 w2 := ((Below.refl _ _).drewN 1).trans hb
                clear hb
                go_wp2
                refine hK.out _ _ Bw2 ?_
                clear hK K
                refine alH fun K hK => ?_
                go_wp2
                refine hK.out _ _ Bw2 ?_
                clear hK K
                refine chainH_nil ?_
                replace HB1 := hide (HB1.out.trans (Bw2.mono HB1.out.size))
                replace HC1 := hide (HC1.out.later Bw2)
                clear Bw2 c0 c1 c2 c3 c4 c5 c6
                obtain ⟨c0, c1, c2, c3, c4, c5, c6, cz⟩ := cells7 HC1.out
                clear cz
                go_wp2
                go_quiet (fail)
                have HB2 := hide (HB1.out.drewN nq)
                go_wp2_with fail
                refine (rof_any m _).mono ?_
                rintro e w3 ⟨rfl, hb⟩
                rw [HM.out]
                have HB3 := hide (HB2.out.trans (hb.mono HB2.out.size))
                clear hb
                go_wp2_with fail
                refine (rof_any n _).mono ?_
                rintro e w4 ⟨rfl, hb⟩
                rw [HN.out]
                have HB4 := hide (HB3.out.trans (hb.mono HB3.out.size))
                clear hb
                go_wp2
                go_ret
                exact ⟨ret_bool E3.out.symm, HB4.out⟩
            · have q5 : (P2 == 0) = false := by simpa using hz
              have E3 : Hid (rightC ⟨r, m, n, d, ⟨f, g, b⟩⟩ = false) := by unfold Hid; rw [E.out, HX.out, decide_eq_true hq]; unfold marksC; simp [hm, hP2, hz]
              clear hp hP1 hq h0 hP2 hm hz
              go_enter Tryd.func34, Tryd.ntmps34
              go_wp2_with fail
              rw [HW0.out]
              refine (rright_any f g b _).mono ?_
              rintro e w1 ⟨rfl, hb1⟩
              rw [HP.out]
              have HC1 := hide (HC.out.later hb1)
              have HB1 := hide (HB.out.trans (hb1.mono HB.out.size))
              obtain ⟨c0, c1, c2, c3, c4, c5, c6, cz⟩ := cells7 HC1.out
              clear hb1 cz
              go_wp2
              refine rgH (fun w' => Below w1.heap.size w1 w') [(true, 0), (true, 3), (true, 1), (true, 4), (true, 5), (false, 2), (false, 6)] ((Below.refl _ _).drewN 1) ?_
              refine stH (h := ?_)
              refine stH (h := ?_)
              refine stH (hy := fun w hS => by obtain ⟨a0, a1, a2, a3, a4, a5, a6, -⟩ := cells7 (HC1.out.later hS); go_simp <;> with_reducible rfl) (h := ?_)
              refine stH (hy := fun w hS => by obtain ⟨a0, a1, a2, a3, a4, a5, a6, -⟩ := cells7 (HC1.out.later hS); go_simp <;> with_reducible rfl) (h := ?_)
              refine stH (h := ?_)
              refine alH fun K hK => ?_
              go_wp2_with fail
              refine (rof_any r _).mono ?_
              rintro e w2 ⟨rfl, hb⟩
              rw [HX.out]
              have Bw2 : Below w1.heap.size w1 w2 := ((Below.refl _ _).drewN 1).trans hb
              clear hb
              go_wp2
              refine hK.out _ _ Bw2 ?_
              clear hK K
              refine alH fun K hK => ?_
              go_wp2
              refine hK.out _ _ Bw2 ?_
              clear hK K
              refine chainH_nil ?_
              replace HB1 := hide (HB1.out.trans (Bw2.mono HB1.out.size))
              replace HC1 := hide (HC1.out.later Bw2)
              clear Bw2 c0 c1 c2 c3 c4 c5 c6
              obtain ⟨c0, c1, c2, c3, c4, c5, c6, cz⟩ := cells7 HC1.out
              clear cz
              go_wp2
              go_quiet (fail)
              have HB2 := hide (HB1.out.drewN nq)
              go_wp2_with fail
              refine (rof_any m _).mono ?_
              rintro e w3 ⟨rfl, hb⟩
              rw [HM.out]
              have HB3 := hide (HB2.out.trans (hb.mono HB2.out.size))
              clear hb
              go_wp2
              go_ret
              exact ⟨ret_bool E3.out.symm, HB3.out⟩
        · have hqq : (P1 != (d : Int)) = true := by simpa using hq
          have E2 : Hid (rightC ⟨r, m, n, d, ⟨f, g, b⟩⟩ = false) := by unfold Hid; rw [E.out, HX.out, decide_eq_false hq]; rfl
          clear hp hP1 hq h0
          go_enter Tryd.func34, Tryd.ntmps34
          go_wp2_with fail
          rw [HW0.out]
          refine (rright_any f g b _).mono ?_
          rintro e w1 ⟨rfl, hb1⟩
          rw [HP.out]
          have HC1 := hide (HC.out.later hb1)
          have HB1 := hide (HB.out.trans (hb1.mono HB.out.size))
          obtain ⟨c0, c1, c2, c3, c4, c5, c6, cz⟩ := cells7 HC1.out
          clear hb1 cz
          go_wp2
          refine rgH (fun w' => Below w1.heap.size w1 w') [(true, 0), (true, 3), (true, 1), (true, 4), (true, 5), (false, 2), (false, 6)] ((Below.refl _ _).drewN 1) ?_
          refine stH (h := ?_)
          refine stH (h := ?_)
          refine stH (hy := fun w hS => by obtain ⟨a0, a1, a2, a3, a4, a5, a6, -⟩ := cells7 (HC1.out.later hS); go_simp <;> with_reducible rfl) (h := ?_)
          refine stH (hy := fun w hS => by obtain ⟨a0, a1, a2, a3, a4, a5, a6, -⟩ := cells7 (HC1.out.later hS); go_simp <;> with_reducible rfl) (h := ?_)
          refine stH (h := ?_)
          refine alH fun K hK => ?_
          go_wp2_with fail
          refine (rof_any r _).mono ?_
          rintro e w2 ⟨rfl, hb⟩
          rw [HX.out]
          have Bw2 : Below w1.heap.size w1 w2 := ((Below.refl _ _).drewN 1).trans hb
          clear hb
          go_wp2
          refine hK.out _ _ Bw2 ?_
          clear hK K
          refine alH fun K hK => ?_
          go_wp2
          refine hK.out _ _ Bw2 ?_
          clear hK K
          refine chainH_nil ?_
          go_wp2
          go_ret
          exact ⟨ret_bool E2.out.symm, HB1.out.trans (Bw2.mono HB1.out.size)⟩
end
end Go.Proofs.YtkondkmfknbfjaaDoor
