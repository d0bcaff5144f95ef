/-
  Contracts and plain mathematics of ChainL, ChainT, RnPut, NEq, NBase, NTurn, NNumb.
-/
import Derived.Test.YtcbdokocnjoilaaGreatDoorH4
import Derived.Test.YtcbdokocnjoilaaGreatDoorH1
import Derived.Test.YtcbdokocnjoilaaGreatDoorH2
import Derived.Test.YtcbdokocnjoilaaGreatDoorH5
import Derived.RangeFuncNested
import Derived.Test.YtcbdokocnjoilaaGreatDoorChecked
import Derived.Laws.StructEq
import Derived.Laws.BitsAll
import Derived.Lib.MinMax
import Derived.Deep.DeepCutAuto
import Derived.Deep.CutBlock
namespace Go.Proofs.YtcbdokocnjoilaaGreatDoor
set_option maxRecDepth 100000
set_option linter.unusedVariables false
set_option maxHeartbeats 8000000
section
open Go.RowKit
section
variable {P : Program} {ops : Array Oper} {Q : Exit → Act → World → Prop} {S : World → Prop} {k : Nat}

/-- Whatever order is picked from here on, and S holds behind every operation up to k. -/
def wpAnyL (P : Program) (ops : Array Oper) (Q : Exit → Act → World → Prop) (S : World → Prop) (k : Nat) : Nat → Array Bool → Act → World → Prop
  | 0, listed, a, w => Region.ready .any ops listed = [] ∧ Q .normal a w
  | fuel + 1, listed, a, w =>
    (Region.ready .any ops listed = [] → Q .normal a w) ∧
    ∀ i ∈ Region.ready .any ops listed, wpOp P ops Q i (fun a' w' => ((listed.setIfInBounds i true).getD k false = true ∨ S w') ∧ wpAnyL P ops Q S k fuel (listed.setIfInBounds i true) a' w') a w
theorem wpAny_of_L : ∀ (fuel : Nat) (listed : Array Bool) (a : Act) (w : World), wpAnyL P ops Q S k fuel listed a w → wpAny P .any ops Q fuel listed a w
  | 0, _, _, _, h => h
  | fuel + 1, _, _, _, h => ⟨h.1, fun i hi => wpOp_mono (fun a' w' h' => wpAny_of_L fuel _ a' w' h'.2) (h.2 i hi)⟩
/-- What has come up had all that it waits for. -/
def ClosedL (ops : Array Oper) (listed : Array Bool) : Prop := ∀ j o, ops[j]? = some o → listed.getD j false = true → ∀ e ∈ o.after, Region.binds .any e = true → listed.getD e.on false = true
theorem ClosedL.set {listed : Array Bool} (h : ClosedL ops listed) {j : Nat} (hj : j ∈ Region.ready .any ops listed) : ClosedL ops (listed.setIfInBounds j true) := by
  obtain ⟨h0, oj, hoj, hall⟩ := mem_ready.1 hj
  intro i o ho hl e he hb
  by_cases hij : j = i
  · subst hij
    rw [hoj] at ho
    cases ho
    exact getD_set_true (hall e he hb)
  · rw [getD_set_ne false hij] at hl
    exact getD_set_true (h i o ho hl e he hb)
def waitsB (ops : Array Oper) : Nat → Nat → Nat → Bool
  | 0, _, _ => false
  | n + 1, k, i => match ops[k]? with
    | some o => (o.after.toList.any fun e => Region.binds .any e && e.on == i) || o.after.toList.any fun e => Region.binds .any e && waitsB ops n e.on i
    | none => false
theorem waits_listed {listed : Array Bool} (hc : ClosedL ops listed) {i : Nat} : ∀ n k, listed.getD k false = true → waitsB ops n k i = true → listed.getD i false = true := by
  intro n
  induction n with
  | zero => intro k _ h; cases h
  | succ n ih =>
    intro k hk h
    unfold waitsB at h
    split at h
    · rename_i o ho
      rcases (Bool.or_eq_true _ _).mp h with h | h
      · obtain ⟨e, he, hb⟩ := List.any_eq_true.1 h
        simp only [Bool.and_eq_true, beq_iff_eq] at hb
        rw [← hb.2]
        exact hc k o ho hk e (by simpa using he) hb.1
      · obtain ⟨e, he, hb⟩ := List.any_eq_true.1 h
        simp only [Bool.and_eq_true] at hb
        exact ih _ (hc k o ho hk e (by simpa using he) hb.1) hb.2
    · cases h
theorem waits_ready {listed : Array Bool} (hc : ClosedL ops listed) {i n : Nat} (hk : k ∈ Region.ready .any ops listed) (h : waitsB ops n k i = true) : listed.getD i false = true := by
  obtain ⟨_, o, ho, hall⟩ := mem_ready.1 hk
  cases n with
  | zero => cases h
  | succ n =>
    unfold waitsB at h
    rw [ho] at h
    rcases (Bool.or_eq_true _ _).mp h with h | h
    · obtain ⟨e, he, hb⟩ := List.any_eq_true.1 h
      simp only [Bool.and_eq_true, beq_iff_eq] at hb
      rw [← hb.2]
      exact hall e (by simpa using he) hb.1
    · obtain ⟨e, he, hb⟩ := List.any_eq_true.1 h
      simp only [Bool.and_eq_true] at hb
      exact waits_listed hc _ _ (hall e (by simpa using he) hb.1) hb.2
theorem unlisted {listed : Array Bool} {i : Nat} (h : i ∈ Region.ready .any ops listed) : listed.getD i false = false := by
  have h0 := (mem_ready.1 h).1
  rcases Nat.lt_or_ge i listed.size with h' | h'
  · simp [h'] at h0 ⊢; exact h0
  · simp [Array.getElem?_eq_none h']

/-- An operation that yields under S may be taken first, where k waits for it. -/
theorem wpAnyL_first {i n : Nat} {oi : Oper} {v : Value} (hi : ops[i]? = some oi) (hsel : ∀ (j : Nat) (o : Oper) cs b, ops[j]? = some o → o.op ≠ .select cs b)
    (hQ : ∀ c a w, Q (.panic c) (a.put oi.dst v) w → Q (.panic c) a w) (hwait : waitsB ops n k i = true) :
    ∀ (fuel : Nat) (listed : Array Bool) (a : Act) (w : World),
      (∀ j oj, ops[j]? = some oj → j ≠ i → listed.getD j true = false → (∀ e ∈ oj.after, Region.binds .any e = true → e.on ≠ i) → oi.apart ops oj = true) →
      i ∈ Region.ready .any ops listed → YieldsIf P ops S oi v a → ClosedL ops listed → listed.getD k false = false → S w →
      wpAnyL P ops Q S k fuel (listed.setIfInBounds i true) (a.put oi.dst v) w → wpAnyL P ops Q S k (fuel + 1) listed a w := by
  intro fuel
  induction fuel with
  | zero =>
    intro listed a w _ hr hy hc hk hS H
    refine ⟨fun h => (by rw [h] at hr; cases hr), fun j hj => ?_⟩
    by_cases hji : j = i
    · subst hji; exact hy.wpOp hi hS ⟨.inr hS, H⟩
    · have := ready_mono hj hji
      rw [H.1] at this
      cases this
  | succ fuel ih =>
    intro listed a w hfree hr hy hc hk hS H
    refine ⟨fun h => (by rw [h] at hr; cases hr), fun j hj => ?_⟩
    by_cases hji : j = i
    · subst hji; exact hy.wpOp hi hS ⟨.inr hS, H⟩
    · have hjk : j ≠ k := by
        rintro rfl
        have h1 := waits_ready hc hj hwait
        rw [unlisted hr] at h1
        cases h1
      have hik : i ≠ k := by
        rintro rfl
        have h1 := waits_ready hc hr hwait
        rw [unlisted hr] at h1
        cases h1
      have h1 := H.2 j (ready_mono hj hji)
      obtain ⟨hjun, oj, hoj, hall⟩ := mem_ready.1 hj
      have hnot : ∀ e ∈ oj.after, Region.binds .any e = true → e.on ≠ i := fun e he hb heq => by
        have h1 := hall e he hb
        rw [heq, unlisted hr] at h1
        cases h1
      have h2 := wpOp_putIf hoj (hfree j oj hoj hji hjun hnot) (fun cs b => hsel i oi cs b hi) (fun cs b => hsel j oj cs b hoj) hQ hy h1
      have hfree' : ∀ k ok, ops[k]? = some ok → k ≠ i → (listed.setIfInBounds j true).getD k true = false →
          (∀ e ∈ ok.after, Region.binds .any e = true → e.on ≠ i) → oi.apart ops ok = true := fun k ok hk hki hun hno => by
        refine hfree k ok hk hki ?_ hno
        by_cases hjk : j = k
        · subst hjk; exact hjun
        · rw [getD_set_ne true hjk] at hun; exact hun
      refine wpOp_mono (fun a' w' h3 => ?_) h2
      have hS' : S w' := by
        rcases h3.2.1 with q | q
        · rw [getD_set_ne false hjk, getD_set_ne false hik, hk] at q
          cases q
        · exact q
      refine ⟨.inr hS', ih (listed.setIfInBounds j true) a' w' hfree' (ready_mono hr (Ne.symm hji)) h3.1 (hc.set hj) (by rw [getD_set_ne false hjk]; exact hk) hS' ?_⟩
      rw [Array.setIfInBounds_comm _ _ hji]
      exact h3.2.2
/-- One that yields in whatever world may be taken first anyway. -/
theorem wpAnyL_pure {i : Nat} {oi : Oper} {v : Value} (hi : ops[i]? = some oi) (hsel : ∀ (j : Nat) (o : Oper) cs b, ops[j]? = some o → o.op ≠ .select cs b)
    (hQ : ∀ c a w, Q (.panic c) (a.put oi.dst v) w → Q (.panic c) a w) (hik : i ≠ k) :
    ∀ (fuel : Nat) (listed : Array Bool) (a : Act) (w : World),
      (∀ j oj, ops[j]? = some oj → j ≠ i → listed.getD j true = false → (∀ e ∈ oj.after, Region.binds .any e = true → e.on ≠ i) → oi.apart ops oj = true) →
      i ∈ Region.ready .any ops listed → YieldsIf P ops (fun _ => True) oi v a → (listed.getD k false = true ∨ S w) →
      wpAnyL P ops Q S k fuel (listed.setIfInBounds i true) (a.put oi.dst v) w → wpAnyL P ops Q S k (fuel + 1) listed a w := by
  intro fuel
  induction fuel with
  | zero =>
    intro listed a w _ hr hy hS H
    refine ⟨fun h => (by rw [h] at hr; cases hr), fun j hj => ?_⟩
    by_cases hji : j = i
    · subst hji; exact hy.wpOp hi trivial ⟨by rw [getD_set_ne false hik]; exact hS, H⟩
    · have := ready_mono hj hji
      rw [H.1] at this
      cases this
  | succ fuel ih =>
    intro listed a w hfree hr hy hS H
    refine ⟨fun h => (by rw [h] at hr; cases hr), fun j hj => ?_⟩
    by_cases hji : j = i
    · subst hji; exact hy.wpOp hi trivial ⟨by rw [getD_set_ne false hik]; exact hS, H⟩
    · have h1 := H.2 j (ready_mono hj hji)
      obtain ⟨hjun, oj, hoj, hall⟩ := mem_ready.1 hj
      have hnot : ∀ e ∈ oj.after, Region.binds .any e = true → e.on ≠ i := fun e he hb heq => by
        have h1 := hall e he hb
        rw [heq, unlisted hr] at h1
        cases h1
      have h2 := wpOp_putIf hoj (hfree j oj hoj hji hjun hnot) (fun cs b => hsel i oi cs b hi) (fun cs b => hsel j oj cs b hoj) hQ hy h1
      have hfree' : ∀ k ok, ops[k]? = some ok → k ≠ i → (listed.setIfInBounds j true).getD k true = false →
          (∀ e ∈ ok.after, Region.binds .any e = true → e.on ≠ i) → oi.apart ops ok = true := fun k ok hk hki hun hno => by
        refine hfree k ok hk hki ?_ hno
        by_cases hjk : j = k
        · subst hjk; exact hjun
        · rw [getD_set_ne true hjk] at hun; exact hun
      refine wpOp_mono (fun a' w' h3 => ?_) h2
      have hS' : (listed.setIfInBounds j true).getD k false = true ∨ S w' := by
        rcases h3.2.1 with q | q
        · rw [Array.setIfInBounds_comm _ _ (Ne.symm hji), getD_set_ne false hik] at q
          exact .inl q
        · exact .inr q
      refine ⟨hS', ih (listed.setIfInBounds j true) a' w' hfree' (ready_mono hr (Ne.symm hji)) h3.1 hS' ?_⟩
      rw [Array.setIfInBounds_comm _ _ hji]
      exact h3.2.2

/-- '(0, i)': number i is taken early, under S. '(1, i)': it comes up alone, and S holds behind it. '(2, i)': it is taken early, in whatever world. '(3, i)': it comes up alone, at k or behind it. -/
def wpChainL (P : Program) (ops : Array Oper) (Q : Exit → Act → World → Prop) (S : World → Prop) : List (Nat × Nat) → Act → World → Prop
  | [], a, w => Q .normal a w
  | (0, i) :: r, a, w => match ops[i]? with
    | some o => ∃ v, YieldsIf P ops S o v a ∧ wpChainL P ops Q S r (a.put o.dst v) w
    | none => False
  | (1, i) :: r, a, w => match ops[i]? with
    | some o => ∀ K : Act → World → Prop, (∀ a w, S w → wpChainL P ops Q S r a w → K a w) → wpList P ops (Exit.then K Q) [o] a w
    | none => False
  | (2, i) :: r, a, w => match ops[i]? with
    | some o => ∃ v, YieldsIf P ops (fun _ => True) o v a ∧ wpChainL P ops Q S r (a.put o.dst v) w
    | none => False
  | (_, i) :: r, a, w => match ops[i]? with
    | some o => ∀ K : Act → World → Prop, (∀ a w, wpChainL P ops Q S r a w → K a w) → wpList P ops (Exit.then K Q) [o] a w
    | none => False
def chainOkL (ops : Array Oper) (k : Nat) : List (Nat × Nat) → Array Bool → Bool
  | [], listed => (Region.ready .any ops listed).isEmpty
  | (0, i) :: r, listed => Region.free .any ops listed i && (Region.ready .any ops listed).contains i && waitsB ops ops.size k i && (listed.getD k false == false) && chainOkL ops k r (listed.setIfInBounds i true)
  | (1, i) :: r, listed => (Region.ready .any ops listed == [i]) && chainOkL ops k r (listed.setIfInBounds i true)
  | (2, i) :: r, listed => Region.free .any ops listed i && (Region.ready .any ops listed).contains i && (i != k) && chainOkL ops k r (listed.setIfInBounds i true)
  | (_, i) :: r, listed => (Region.ready .any ops listed == [i]) && ((listed.setIfInBounds i true).getD k false) && chainOkL ops k r (listed.setIfInBounds i true)
theorem any_of_chainL (hs : Region.noSelect ops = true) (hQ : ∀ c (d : Tmp) v a w, Q (.panic c) (Act.put a (some d) v) w → Q (.panic c) a w) :
    ∀ (l : List (Nat × Nat)) (listed : Array Bool) (a : Act) (w : World), chainOkL ops k l listed = true → ClosedL ops listed → (listed.getD k false = true ∨ S w) → wpChainL P ops Q S l a w → wpAnyL P ops Q S k l.length listed a w := by
  intro l
  induction l with
  | nil =>
    intro listed a w hok _ _ h
    exact ⟨by simpa [chainOkL] using hok, h⟩
  | cons x r ih =>
    obtain ⟨b, i⟩ := x
    intro listed a w hok hc hS h
    have hput : ∀ (o : Oper) (v : Value) c a w, Q (.panic c) (Act.put a o.dst v) w → Q (.panic c) a w := by
      intro o v c a w hh
      cases hd : o.dst with
      | none => rw [hd] at hh; exact hh
      | some d => rw [hd] at hh; exact hQ c d v a w hh
    have alone : ∀ {T : World → Prop}, Region.ready .any ops listed = [i] → (∀ w', T w' → ((listed.setIfInBounds i true).getD k false = true ∨ S w')) → chainOkL ops k r (listed.setIfInBounds i true) = true →
        (match ops[i]? with
          | some o => ∀ K : Act → World → Prop, (∀ a w, T w → wpChainL P ops Q S r a w → K a w) → wpList P ops (Exit.then K Q) [o] a w
          | none => False) → wpAnyL P ops Q S k (r.length + 1) listed a w := by
      intro T hr hT hok h
      refine ⟨fun h0 => (by rw [hr] at h0; cases h0), fun j hj => ?_⟩
      have hj' := hj
      rw [hr] at hj
      obtain rfl : j = i := by simpa using hj
      obtain ⟨_, o, ho, _⟩ := mem_ready.1 hj'
      rw [ho] at h
      have h := h (fun a' w' => ((listed.setIfInBounds j true).getD k false = true ∨ S w') ∧ wpAnyL P ops Q S k r.length (listed.setIfInBounds j true) a' w') (fun a' w' hS' h' => ⟨hT w' hS', ih _ a' w' hok (hc.set hj') (hT w' hS') h'⟩)
      unfold wpOp
      simp only [ho]
      unfold wpList at h
      split at h
      · rename_i hw
        rw [if_pos hw]
        rcases h with h | ⟨h1, h2⟩
        · exact .inl (upon_list (fun a' w' h' => h') _ h)
        · exact .inr ⟨h1, h2⟩
      · rename_i hw
        rw [if_neg hw]
        exact h
    match b with
    | 0 =>
      simp only [chainOkL, Bool.and_eq_true, beq_iff_eq] at hok
      obtain ⟨⟨⟨⟨hf, hr⟩, hwt⟩, hk⟩, hok⟩ := hok
      have hmem : i ∈ Region.ready .any ops listed := by simpa using hr
      obtain ⟨_, o, ho, _⟩ := mem_ready.1 hmem
      simp only [wpChainL, ho] at h
      obtain ⟨v, hy, h⟩ := h
      have hSw : S w := by
        rcases hS with q | q
        · rw [hk] at q; cases q
        · exact q
      exact wpAnyL_first ho (Region.noSelect_spec hs) (hput o v) hwt _ listed a w (Region.free_spec ho hf) hmem hy hc hk hSw (ih _ _ _ hok (hc.set hmem) (.inr hSw) h)
    | 1 =>
      simp only [chainOkL, Bool.and_eq_true, beq_iff_eq] at hok
      exact alone (T := S) hok.1 (fun w' q => .inr q) hok.2 h
    | 2 =>
      simp only [chainOkL, Bool.and_eq_true, bne_iff_ne, ne_eq] at hok
      obtain ⟨⟨⟨hf, hr⟩, hik⟩, hok⟩ := hok
      have hmem : i ∈ Region.ready .any ops listed := by simpa using hr
      obtain ⟨_, o, ho, _⟩ := mem_ready.1 hmem
      simp only [wpChainL, ho] at h
      obtain ⟨v, hy, h⟩ := h
      exact wpAnyL_pure ho (Region.noSelect_spec hs) (hput o v) hik _ listed a w (Region.free_spec ho hf) hmem hy hS (ih _ _ _ hok (hc.set hmem) (by rw [getD_set_ne false hik]; exact hS) h)
    | b + 3 =>
      simp only [chainOkL, Bool.and_eq_true, beq_iff_eq] at hok
      refine alone (T := fun _ => True) hok.1.1 (fun w' _ => .inl hok.1.2) hok.2 ?_
      obtain ⟨_, o, ho, _⟩ := mem_ready.1 (show i ∈ Region.ready .any ops listed by rw [hok.1.1]; simp)
      simp only [wpChainL, ho] at h ⊢
      exact fun K hK => h K fun a' w' h' => hK a' w' trivial h'
/-- A REGION THAT DRAWS ITS ORDER, in the order of the chain; S is asked up to k. -/
theorem wp_region_chainL {id : Nat} {a : Act} {w : World} (S : World → Prop) (k : Nat) (l : List (Nat × Nat)) (hm : P.follows .mixedOrders = true) (hs : Region.noSelect ops = true)
    (hok : (chainOkL ops k l (Array.replicate ops.size false) && (l.length == ops.size)) = true) (hQ : ∀ c (d : Tmp) v a w, Q (.panic c) (Act.put a (some d) v) w → Q (.panic c) a w)
    (hS : S w.drew) (h : wpChainL P ops Q S l a w.drew) : (Code.region id ops true).wp P Q a w := by
  simp only [Bool.and_eq_true, beq_iff_eq] at hok
  refine wp_region_any hm (wpAny_of_L (S := S) (k := k) _ _ _ _ ?_)
  rw [← hok.2]
  refine any_of_chainL hs hQ l _ a _ (by rw [hok.2]; exact hok.1) ?_ (.inr hS) h
  intro j o ho hl
  simp only [Array.getD_eq_getD_getElem?, Array.getElem?_replicate] at hl
  split at hl <;> simp at hl
theorem chainL_alone {i : Nat} {r : List (Nat × Nat)} {o : Oper} {a : Act} {w : World} (ho : ops[i]? = some o)
    (h : ∀ K : Act → World → Prop, Hid (∀ a w, S w → wpChainL P ops Q S r a w → K a w) → wpList P ops (Exit.then K Q) [o] a w) : wpChainL P ops Q S ((1, i) :: r) a w := by
  simp only [wpChainL, ho]
  exact fun K hK => h K hK
theorem chainL_late {i : Nat} {r : List (Nat × Nat)} {o : Oper} {a : Act} {w : World} (ho : ops[i]? = some o)
    (h : ∀ K : Act → World → Prop, Hid (∀ a w, wpChainL P ops Q S r a w → K a w) → wpList P ops (Exit.then K Q) [o] a w) : wpChainL P ops Q S ((3, i) :: r) a w := by
  simp only [wpChainL, ho]
  exact fun K hK => h K hK
theorem chainL_nil {a : Act} {w : World} (h : Q .normal a w) : wpChainL P ops Q S [] a w := h
theorem chainL_take {i : Nat} {r : List (Nat × Nat)} {o : Oper} {v : Value} {a : Act} {w : World} (ho : ops[i]? = some o) (hw : Region.wanted o (yielded ops a.tmps) = true)
    (hy : ∀ w, S w → (execOp a.eval o).run P w = .ok (.value v) w) (h : wpChainL P ops Q S r (a.put o.dst v) w) : wpChainL P ops Q S ((0, i) :: r) a w := by
  simp only [wpChainL, ho]
  exact ⟨v, Or.inl ⟨hw, hy⟩, h⟩
theorem chainL_pure {i : Nat} {r : List (Nat × Nat)} {o : Oper} {v : Value} {a : Act} {w : World} (ho : ops[i]? = some o) (hw : Region.wanted o (yielded ops a.tmps) = true)
    (hy : ∀ w, (execOp a.eval o).run P w = .ok (.value v) w) (h : wpChainL P ops Q S r (a.put o.dst v) w) : wpChainL P ops Q S ((2, i) :: r) a w := by
  simp only [wpChainL, ho]
  exact ⟨v, Or.inl ⟨hw, fun w _ => hy w⟩, h⟩
end
/-! ### the steps, their closed facts filled -/
section
variable {P : Program} {ops : Array Oper} {Q : Exit → Act → World → Prop} {S : World → Prop}
theorem rgL {id : Nat} {a : Act} {w : World} (S : World → Prop) (k : Nat) (l : List (Nat × Nat)) (hS : S w.drew) (h : wpChainL P ops Q S l a w.drew) (hm : P.follows .mixedOrders = true := by kernel_rfl) (hs : Region.noSelect ops = true := by kernel_rfl)
    (hok : (chainOkL ops k l (Array.replicate ops.size false) && (l.length == ops.size)) = true := by kernel_rfl) (hQ : ∀ c (d : Tmp) v a w, Q (.panic c) (Act.put a (some d) v) w → Q (.panic c) a w := by exact fun _ _ _ _ _ h => h) : (Code.region id ops true).wp P Q a w := wp_region_chainL S k l hm hs hok hQ hS h
theorem alL {i : Nat} {r : List (Nat × Nat)} {o : Oper} {a : Act} {w : World}
    (h : ∀ K : Act → World → Prop, Hid (∀ a w, S w → wpChainL P ops Q S r a w → K a w) → wpList P ops (Exit.then K Q) [o] a w) (ho : ops[i]? = some o := by simp only [List.getElem?_toArray, List.getElem?_cons_zero, List.getElem?_cons_succ] <;> rfl) : wpChainL P ops Q S ((1, i) :: r) a w := chainL_alone ho h
theorem laL {i : Nat} {r : List (Nat × Nat)} {o : Oper} {a : Act} {w : World}
    (h : ∀ K : Act → World → Prop, Hid (∀ a w, wpChainL P ops Q S r a w → K a w) → wpList P ops (Exit.then K Q) [o] a w) (ho : ops[i]? = some o := by simp only [List.getElem?_toArray, List.getElem?_cons_zero, List.getElem?_cons_succ] <;> rfl) : wpChainL P ops Q S ((3, i) :: r) a w := chainL_late ho h
theorem stL {i : Nat} {r : List (Nat × Nat)} {o : Oper} {v : Value} {a a2 : Act} {w : World} (ho : ops[i]? = some o := by simp only [List.getElem?_toArray, List.getElem?_cons_zero, List.getElem?_cons_succ] <;> rfl) (hw : Region.wanted o (yielded ops a.tmps) = true := by rfl) (hy : ∀ w, S w → (execOp a.eval o).run P w = .ok (.value v) w := by intro w hS; go_simp <;> with_reducible rfl)
    (ha : a.put o.dst v = a2 := by simp only [Act.put, List.setIfInBounds_toArray, List.set_cons_zero, List.set_cons_succ] <;> rfl) (h : wpChainL P ops Q S r a2 w) : wpChainL P ops Q S ((0, i) :: r) a w := chainL_take ho hw hy (ha ▸ h)
theorem puL {i : Nat} {r : List (Nat × Nat)} {o : Oper} {v : Value} {a a2 : Act} {w : World} (ho : ops[i]? = some o := by simp only [List.getElem?_toArray, List.getElem?_cons_zero, List.getElem?_cons_succ] <;> rfl) (hw : Region.wanted o (yielded ops a.tmps) = true := by rfl) (hy : ∀ w, (execOp a.eval o).run P w = .ok (.value v) w := by intro w; go_simp <;> with_reducible rfl)
    (ha : a.put o.dst v = a2 := by simp only [Act.put, List.setIfInBounds_toArray, List.set_cons_zero, List.set_cons_succ] <;> rfl) (h : wpChainL P ops Q S r a2 w) : wpChainL P ops Q S ((2, i) :: r) a w := chainL_pure ho hw hy (ha ▸ h)
end
inductive OTree where
  | done
  | take (i : Nat) (t : OTree)
  | alone (i : Nat) (t : OTree)
  | two (i : Nat) (t : OTree) (j : Nat) (u : OTree)

def stepT (P : Program) (ops : Array Oper) (Q : Exit → Act → World → Prop) (S : World → Prop) (i : Nat) (N : Act → World → Prop) (a : Act) (w : World) : Prop := match ops[i]? with
  | some o => ∀ K : Act → World → Prop, (∀ a w, S w → N a w → K a w) → wpList P ops (Exit.then K Q) [o] a w
  | none => False
def wpTree (P : Program) (ops : Array Oper) (Q : Exit → Act → World → Prop) (S : World → Prop) : OTree → Act → World → Prop
  | .done, a, w => Q .normal a w
  | .take i t, a, w => match ops[i]? with
    | some o => ∃ v, YieldsIf P ops S o v a ∧ wpTree P ops Q S t (a.put o.dst v) w
    | none => False
  | .alone i t, a, w => stepT P ops Q S i (wpTree P ops Q S t) a w
  | .two i t j u, a, w => stepT P ops Q S i (wpTree P ops Q S t) a w ∧ stepT P ops Q S j (wpTree P ops Q S u) a w
def okT (ops : Array Oper) : OTree → Nat → Array Bool → Bool
  | .done, n, listed => (n == 0) && (Region.ready .any ops listed).isEmpty
  | .take i t, n + 1, listed => Region.free .any ops listed i && (Region.ready .any ops listed).contains i && okT ops t n (listed.setIfInBounds i true)
  | .alone i t, n + 1, listed => (Region.ready .any ops listed == [i]) && okT ops t n (listed.setIfInBounds i true)
  | .two i t j u, n + 1, listed => (Region.ready .any ops listed == [i, j]) && (okT ops t n (listed.setIfInBounds i true) && okT ops u n (listed.setIfInBounds j true))
  | _, _, _ => false

section
variable {P : Program} {ops : Array Oper} {Q : Exit → Act → World → Prop} {S : World → Prop}

theorem op_of_step {i n : Nat} {N : Act → World → Prop} {listed : Array Bool} {a : Act} {w : World} (hmem : i ∈ Region.ready .any ops listed)
    (hN : ∀ a w, S w → N a w → wpAnyH P .any ops Q S n (listed.setIfInBounds i true) a w) (h : stepT P ops Q S i N a w) :
    wpOp P ops Q i (fun a' w' => S w' ∧ wpAnyH P .any ops Q S n (listed.setIfInBounds i true) a' w') a w := by
  obtain ⟨_, o, ho, _⟩ := mem_ready.1 hmem
  simp only [stepT, ho] at h
  have h := h (fun a' w' => S w' ∧ wpAnyH P .any ops Q S n (listed.setIfInBounds i true) a' w') (fun a' w' hS' h' => ⟨hS', hN a' w' hS' h'⟩)
  unfold wpOp
  simp only [ho]
  unfold wpList at h
  split at h
  · rename_i hw
    rw [if_pos hw]
    rcases h with h | ⟨h1, h2⟩
    · exact .inl (upon_list (fun a' w' h' => h') _ h)
    · exact .inr ⟨h1, h2⟩
  · rename_i hw
    rw [if_neg hw]
    exact h

theorem any_of_tree (hs : Region.noSelect ops = true) (hQ : ∀ c (d : Tmp) v a w, Q (.panic c) (Act.put a (some d) v) w → Q (.panic c) a w) :
    ∀ (t : OTree) (n : Nat) (listed : Array Bool) (a : Act) (w : World), okT ops t n listed = true → S w → wpTree P ops Q S t a w → wpAnyH P .any ops Q S n listed a w := by
  intro t
  induction t with
  | done =>
    intro n listed a w hok _ h
    simp only [okT, Bool.and_eq_true, beq_iff_eq] at hok
    obtain ⟨rfl, hok⟩ := hok
    exact wpAnyH_done (by simpa using hok) h 0
  | take i t ih =>
    intro n listed a w hok hS h
    cases n with
    | zero => simp [okT] at hok
    | succ n =>
      simp only [okT, Bool.and_eq_true] at hok
      obtain ⟨⟨hf, hr⟩, hok⟩ := hok
      have hmem : i ∈ Region.ready .any ops listed := by simpa using hr
      obtain ⟨_, o, ho, _⟩ := mem_ready.1 hmem
      simp only [wpTree, ho] at h
      obtain ⟨v, hy, h⟩ := h
      refine wpAnyH_take ho hs hf hr (fun c a w hh => ?_) hy hS (ih _ _ _ _ hok hS h)
      cases hd : o.dst with
      | none => rw [hd] at hh; exact hh
      | some d => rw [hd] at hh; exact hQ c d v a w hh
  | alone i t ih =>
    intro n listed a w hok hS h
    cases n with
    | zero => simp [okT] at hok
    | succ n =>
      simp only [okT, Bool.and_eq_true, beq_iff_eq] at hok
      obtain ⟨hr, hok⟩ := hok
      refine wpAnyH_all hr (by simp) fun j hj => ?_
      obtain rfl : j = i := by simpa using hj
      exact op_of_step (by rw [hr]; simp) (fun a w hS' h' => ih _ _ a w hok hS' h') h
  | two i t j u ih1 ih2 =>
    intro n listed a w hok hS h
    cases n with
    | zero => simp [okT] at hok
    | succ n =>
      simp only [okT, Bool.and_eq_true, beq_iff_eq] at hok
      obtain ⟨hr, hok1, hok2⟩ := hok
      refine wpAnyH_all hr (by simp) fun x hx => ?_
      rcases List.mem_cons.1 hx with rfl | hx
      · exact op_of_step (by rw [hr]; simp) (fun a w hS' h' => ih1 _ _ a w hok1 hS' h') h.1
      · obtain rfl : x = j := by simpa using hx
        exact op_of_step (by rw [hr]; simp) (fun a w hS' h' => ih2 _ _ a w hok2 hS' h') h.2

/-- A REGION THAT DRAWS ITS ORDER, along a tree. -/
theorem wp_region_tree {id : Nat} {a : Act} {w : World} (S : World → Prop) (t : OTree) (hm : P.follows .mixedOrders = true) (hs : Region.noSelect ops = true)
    (hok : okT ops t ops.size (Array.replicate ops.size false) = true) (hQ : ∀ c (d : Tmp) v a w, Q (.panic c) (Act.put a (some d) v) w → Q (.panic c) a w)
    (hS : S w.drew) (h : wpTree P ops Q S t a w.drew) : (Code.region id ops true).wp P Q a w :=
  wp_region_held (S := S) hm (any_of_tree hs hQ t _ _ a _ hok hS h)

theorem tree_done {a : Act} {w : World} (h : Q .normal a w) : wpTree P ops Q S .done a w := h
theorem tree_take {i : Nat} {t : OTree} {o : Oper} {v : Value} {a : Act} {w : World} (ho : ops[i]? = some o) (hw : Region.wanted o (yielded ops a.tmps) = true)
    (hy : ∀ w, S w → (execOp a.eval o).run P w = .ok (.value v) w) (h : wpTree P ops Q S t (a.put o.dst v) w) : wpTree P ops Q S (.take i t) a w := by
  simp only [wpTree, ho]
  exact ⟨v, Or.inl ⟨hw, hy⟩, h⟩
theorem step_of {i : Nat} {N : Act → World → Prop} {o : Oper} {a : Act} {w : World} (ho : ops[i]? = some o)
    (h : ∀ K : Act → World → Prop, Hid (∀ a w, S w → N a w → K a w) → wpList P ops (Exit.then K Q) [o] a w) : stepT P ops Q S i N a w := by
  simp only [stepT, ho]
  exact fun K hK => h K hK
theorem tree_alone {i : Nat} {t : OTree} {o : Oper} {a : Act} {w : World} (ho : ops[i]? = some o)
    (h : ∀ K : Act → World → Prop, Hid (∀ a w, S w → wpTree P ops Q S t a w → K a w) → wpList P ops (Exit.then K Q) [o] a w) : wpTree P ops Q S (.alone i t) a w := step_of ho h
theorem tree_two {i : Nat} {t : OTree} {j : Nat} {u : OTree} {o o' : Oper} {a : Act} {w : World} (ho : ops[i]? = some o) (ho' : ops[j]? = some o')
    (h : ∀ K : Act → World → Prop, Hid (∀ a w, S w → wpTree P ops Q S t a w → K a w) → wpList P ops (Exit.then K Q) [o] a w)
    (h' : ∀ K : Act → World → Prop, Hid (∀ a w, S w → wpTree P ops Q S u a w → K a w) → wpList P ops (Exit.then K Q) [o'] a w) : wpTree P ops Q S (.two i t j u) a w := ⟨step_of ho h, step_of ho' h'⟩
end

/-- Blocks of other types are as they were. -/
def Others (e : TypeId) (w w1 : World) : Prop := ∀ q t l, t ≠ e → Whole w q t l → Whole w1 q t l
theorem Others.of {e : TypeId} {k : IntKind} {B : Nat} {w wr w1 : World} {v : Value} {bs : List Int} (h : Own e k B w wr v bs) (hg : wr.grownBy w1 v.ownBlock) : Others e wr w1 := by
  intro q t l ht hw
  refine (hg.block q hw.lt ?_).trans hw
  intro hq
  rcases h.own.2 with ⟨rfl, _⟩ | ⟨g, cap, cur, rfl, _, hh, _⟩
  · simp [Value.ownBlock] at hq
  · obtain rfl : q = g := by simpa [Value.ownBlock] using hq
    unfold Whole at hw
    rw [hh] at hw
    simp only [Option.some.injEq, Obj.cells.injEq] at hw
    exact ht hw.2.1.symm

/-- 'append(row, src...)', src whatever; blocks of other types stay. -/
theorem wpList_catO {P : Program} {T e : TypeId} {k : IntKind} {bytes : Nat} (E : Elem P T e k bytes) {ops : Array Oper} {rest : List Oper} {o : Oper} {a : Act} {Q : Exit → Act → World → Prop} {B : Nat} {w wr : World} {v : Value} {bs ns : List Int} {A : Option Addr} {n c : Nat}
    (hgd : Region.wanted o (yielded ops a.tmps) = true) (s y : Operand) (ho : o.op = .call { callee := .builtin .append, args := #[s, y], argTypes := #[T, T] })
    (hs : a.eval s = v) (hy : a.eval y = .slice A n c) (hown : Own e k B w wr v bs) (hns : Ints k wr A ns) (hn : ns.length = n) (hc : A = none → c = 0) (hlen : bs.length + n ≤ 1000000) (hby : bytes ≤ 1000)
    (h : ∀ v' w1, Own e k B w w1 v' (bs ++ ns) → Others e wr w1 → wpList P ops Q rest (a.put o.dst v') w1) : wpList P ops Q (o :: rest) a wr := by
  subst hn
  obtain ⟨i0, hi, hz0, hz1, hz2⟩ := info_parts E.info
  have hb : (bs.length + ns.length) * bytes ≤ 1000000 * 1000 := Nat.mul_le_mul hlen hby
  refine wpList_want hgd fun K hK => ?_
  cases A with
  | none =>
    have hn : ns = [] := by
      rcases hns with h | ⟨_, _, h, _⟩
      · exact h
      · cases h
    subst hn
    obtain rfl : c = 0 := hc rfl
    have hrun := run_append_owned_none (P := P) (w := wr) B T o.type e i0 1 E.under hi v bs.length _ hown.own
    unfold Oper.wp
    simp [execOp, ho, resolve, invoke, builtin, hs, hy, hrun, Result.andThen]
    exact hK _ _ (h v wr (by simpa using hown) (fun _ _ _ _ h => h))
  | some ad =>
    refine wp_append_own _ s y T ho B e i0 (.int k 0) 1 bytes E.under hi hz0 hz1 hz2 rfl (by decide) v bs.length _ hs hown.own ad ns.length c (ns.map (Value.int k)) hy (by simp) ?_ (oneCells k ns)
      (by unfold maxLen; omega) (by omega) hown.le ?_
    · intro j u hu
      have hj : j < ns.length := by have := (List.getElem?_eq_some_iff.1 hu).1; simpa using this
      obtain ⟨b, off, e1, hcell, _⟩ := hns.at hj
      cases e1
      have : (⟨b, off, none⟩ : Addr).add j = ⟨b, off + j, none⟩ := by unfold Addr.add; split <;> simp_all
      rw [this, hcell]
      simp [List.getElem?_eq_getElem hj] at hu ⊢
      exact hu
    · intro v' w1 h1 hg _
      exact hK _ _ (h v' w1 (hown.grown h1 hg) (Others.of hown hg))
/-! ### the steps, their closed facts filled -/
section
variable {P : Program} {ops : Array Oper} {Q : Exit → Act → World → Prop} {S : World → Prop}
theorem rgT {id : Nat} {a : Act} {w : World} (S : World → Prop) (t : OTree) (hS : S w.drew) (h : wpTree P ops Q S t a w.drew) (hm : P.follows .mixedOrders = true := by kernel_rfl) (hs : Region.noSelect ops = true := by kernel_rfl)
    (hok : okT ops t ops.size (Array.replicate ops.size false) = true := by kernel_rfl) (hQ : ∀ c (d : Tmp) v a w, Q (.panic c) (Act.put a (some d) v) w → Q (.panic c) a w := by exact fun _ _ _ _ _ h => h) : (Code.region id ops true).wp P Q a w := wp_region_tree S t hm hs hok hQ hS h
theorem alT {i : Nat} {t : OTree} {o : Oper} {a : Act} {w : World}
    (h : ∀ K : Act → World → Prop, Hid (∀ a w, S w → wpTree P ops Q S t a w → K a w) → wpList P ops (Exit.then K Q) [o] a w) (ho : ops[i]? = some o := by simp only [List.getElem?_toArray, List.getElem?_cons_zero, List.getElem?_cons_succ] <;> rfl) : wpTree P ops Q S (.alone i t) a w := tree_alone ho h
theorem stT {i : Nat} {t : OTree} {o : Oper} {v : Value} {a a2 : Act} {w : World} (ho : ops[i]? = some o := by simp only [List.getElem?_toArray, List.getElem?_cons_zero, List.getElem?_cons_succ] <;> rfl) (hw : Region.wanted o (yielded ops a.tmps) = true := by rfl) (hy : ∀ w, S w → (execOp a.eval o).run P w = .ok (.value v) w := by intro w hS; go_simp <;> with_reducible rfl)
    (ha : a.put o.dst v = a2 := by simp only [Act.put, List.setIfInBounds_toArray, List.set_cons_zero, List.set_cons_succ] <;> rfl) (h : wpTree P ops Q S t a2 w) : wpTree P ops Q S (.take i t) a w := tree_take ho hw hy (ha ▸ h)
end
end
section
open Go.ChangeShapes Go.WideShapes Go.ChangeAt Go.RowKit
/-- 'append(row, src...)', src whatever; what it left. -/
theorem wpList_catG {P : Program} {T e : TypeId} {k : IntKind} {bytes : Nat} (E : Elem P T e k bytes) {ops : Array Oper} {rest : List Oper} {o : Oper} {a : Act} {Q : Exit → Act → World → Prop} {B : Nat} {w wr : World} {v : Value} {bs ns : List Int} {A : Option Addr} {n c : Nat}
    (hgd : Region.wanted o (yielded ops a.tmps) = true) (s y : Operand) (ho : o.op = .call { callee := .builtin .append, args := #[s, y], argTypes := #[T, T] })
    (hs : a.eval s = v) (hy : a.eval y = .slice A n c) (hown : Own e k B w wr v bs) (hns : Ints k wr A ns) (hn : ns.length = n) (hc : A = none → c = 0) (hlen : bs.length + n ≤ 1000000) (hby : bytes ≤ 1000)
    (h : ∀ v' w1, Own e k B w w1 v' (bs ++ ns) → wr.grownBy w1 v.ownBlock → wpList P ops Q rest (a.put o.dst v') w1) : wpList P ops Q (o :: rest) a wr := by
  subst hn
  obtain ⟨i0, hi, hz0, hz1, hz2⟩ := info_parts E.info
  have hb : (bs.length + ns.length) * bytes ≤ 1000000 * 1000 := Nat.mul_le_mul hlen hby
  refine wpList_want hgd fun K hK => ?_
  cases A with
  | none =>
    have hn : ns = [] := by
      rcases hns with h | ⟨_, _, h, _⟩
      · exact h
      · cases h
    subst hn
    obtain rfl : c = 0 := hc rfl
    have hrun := run_append_owned_none (P := P) (w := wr) B T o.type e i0 1 E.under hi v bs.length _ hown.own
    unfold Oper.wp
    simp [execOp, ho, resolve, invoke, builtin, hs, hy, hrun, Result.andThen]
    exact hK _ _ (h v wr (by simpa using hown) ⟨rfl, rfl, rfl, Nat.le_refl _, fun _ _ _ => rfl⟩)
  | some ad =>
    refine wp_append_own _ s y T ho B e i0 (.int k 0) 1 bytes E.under hi hz0 hz1 hz2 rfl (by decide) v bs.length _ hs hown.own ad ns.length c (ns.map (Value.int k)) hy (by simp) ?_ (oneCells k ns)
      (by unfold maxLen; omega) (by omega) hown.le ?_
    · intro j u hu
      have hj : j < ns.length := by have := (List.getElem?_eq_some_iff.1 hu).1; simpa using this
      obtain ⟨b, off, e1, hcell, _⟩ := hns.at hj
      cases e1
      have : (⟨b, off, none⟩ : Addr).add j = ⟨b, off + j, none⟩ := by unfold Addr.add; split <;> simp_all
      rw [this, hcell]
      simp [List.getElem?_eq_getElem hj] at hu ⊢
      exact hu
    · intro v' w1 h1 hg _
      exact hK _ _ (h v' w1 (hown.grown h1 hg) hg)
/-- What a call that appends bytes to the variable p leaves: all else but p and blocks of bytes from B on. -/
structure Ap (B p : Nat) (w w' : World) : Prop where
  bel : Below B w w'
  size : w.heap.size ≤ w'.heap.size
  oth : ∀ (k : Nat) (o : Obj), w.heap[k]? = some o → k ≠ p → (∀ cur fz, o ≠ .cells cur 5 fz) → w'.heap[k]? = some o
section
variable {B p : Nat} {w w' w'' : World}
theorem Ap.refl : Ap B p w w := ⟨Below.refl _ _, Nat.le_refl _, fun _ _ h _ _ => h⟩
theorem Ap.trans (h : Ap B p w w') (k : Ap B p w' w'') : Ap B p w w'' := ⟨h.bel.trans k.bel, Nat.le_trans h.size k.size, fun i o h1 h2 h3 => k.oth i o (h.oth i o h1 h2 h3) h2 h3⟩
theorem Ap.of_below (h : Below w.heap.size w w') (hB : B ≤ w.heap.size) : Ap B p w w' := ⟨h.mono hB, h.size, fun i o h1 h2 h3 => (h.block i (Array.getElem?_eq_some_iff.1 h1).1).trans h1⟩
theorem Ap.whole {q : Nat} {t : TypeId} {l : List Value} (h : Ap B p w w') (hw : Whole w q t l) (hq : q ≠ p) (ht : t ≠ 5) : Whole w' q t l := h.oth q _ hw hq (fun cur fz e => ht (by cases e; rfl))
theorem Ap.keeps {t : TypeId} {l : List Value} (h : Ap B p w w') (hp : Whole w p t l) (C : Nat) : KeepsFrom C w w' := ⟨h.size, fun k o _ hk ho => by
  refine h.oth k o hk ?_ ?_
  · rintro rfl
    rw [show w.heap[k]? = _ from hp] at hk
    cases hk
    cases ho
  · rintro cur fz rfl
    cases ho⟩
theorem Ap.put {v : Value} (hB : B ≤ p) : Ap B p w (w.setCell ⟨p, 0, none⟩ v) := ⟨(Below.refl _ _).setCell (p := ⟨p, 0, none⟩) hB _, by simp [World.setCell], fun k o h1 h2 h3 => (Below.heap_setCell w ⟨p, 0, none⟩ v k h2).trans h1⟩
/-- .. an append to a row of bytes. -/
theorem Ap.row {v : Value} {bs : List Int} {k : IntKind} (h : Own 5 k B w w v bs) (hb : Below B w w') (hg : w.grownBy w' v.ownBlock) : Ap B p w w' := ⟨hb, hg.size, fun i o h1 h2 h3 => by
  refine (hg.block i (Array.getElem?_eq_some_iff.1 h1).1 ?_).trans h1
  intro e
  rcases h.own.2 with ⟨rfl, _⟩ | ⟨g, cap, cur, rfl, _, hh, _⟩
  · simp [Value.ownBlock] at e
  · obtain rfl : i = g := by simpa [Value.ownBlock] using e
    rw [hh] at h1
    cases h1
    exact h3 _ _ rfl⟩
end
/-- Blocks of bytes stay. -/
def Stay5 (w w' : World) : Prop := ∀ (b : Nat) (cur : Array Value), w.heap[b]? = some (Obj.cells cur 5 (0, 0)) → w'.heap[b]? = w.heap[b]?
theorem Stay5.put {w : World} {g i : Nat} {l : List Value} {u : Value} (h : Whole w g 36 l) : Stay5 w (w.setCell ⟨g, i, none⟩ u) := by
  intro b cur hb
  refine Below.heap_setCell _ _ _ _ ?_
  rintro rfl
  unfold Whole at h
  rw [hb] at h
  simp only [Option.some.injEq, Obj.cells.injEq] at h
  exact absurd h.2.1 (by decide)
theorem Stay5.own {B : Nat} {w w' : World} {v : Value} {bs : List Int} {k : IntKind} (h : Stay5 w w') (ho : Own 5 k B w w v bs) (hs : w.heap.size ≤ w'.heap.size) : Own 5 k B w' w' v bs := ⟨ho.cl.keep h, Below.refl _ _, Nat.le_trans ho.le hs⟩
/-- The variable p holds these bytes, in a row from B on. -/
structure Pt (B p : Nat) (w : World) (bs : List Int) : Prop where
  ex : ∃ v, Whole w p 36 [v] ∧ Own 5 .u8 B w w v bs
  ge : B ≤ p
theorem Pt.later {B p : Nat} {w w' : World} {bs : List Int} (h : Pt B p w bs) (hb : Below w.heap.size w w') : Pt B p w' bs := by
  obtain ⟨v, hv, ho⟩ := h.ex
  exact ⟨⟨v, hv.later hb, (ho.later hb).now⟩, h.ge⟩
theorem Pt.lt {B p : Nat} {w : World} {bs : List Int} (h : Pt B p w bs) : p < w.heap.size := by
  obtain ⟨v, hv, ho⟩ := h.ex
  exact hv.lt

theorem runput_any (B p : Nat) (bs : List Int) (N : Nat) (w : World) (h : Pt B p w bs) (hN : N < 9223372036854775808) (hl : bs.length ≤ 500000) :
    Calls Tryz.prog 56 #[.int .i64 (N : Int), .pointer (some ⟨p, 0, none⟩)] w fun e w' => e = .returned (.tuple #[]) ∧ Pt B p w' (bs ++ enc N) ∧ Ap B p w w' := by
  obtain ⟨v, hv, ho⟩ := h.ex
  have hge := h.ge
  have hel := (enc_len N).2
  have HV : Hid (Whole w.drew p 36 [v]) := hv.drew
  have HO : Hid (Own 5 .u8 B w.drew w.drew v bs) := (ho.later ((Below.refl _ _).drewN 1)).now
  have HWD : Hid (Ap B p w w.drew) := Ap.of_below ((Below.refl _ _).drewN 1) ho.le
  have HLD : Hid (B ≤ w.drew.heap.size) := ho.le
  clear h hv ho
  go_enter Tryz.func56, Tryz.ntmps56
  go_wp2
  refine wp_region_chainL (fun w' => w'.cell? ⟨p, 0, none⟩ = some v) 6 [(0, 1), (0, 2), (0, 0), (1, 3), (1, 4), (1, 5), (3, 6)] (by kernel_rfl) (by kernel_rfl) (by kernel_rfl) (fun _ _ _ _ _ h => h) ?_ ?_
  · exact HV.out.cell 0
  generalize w.drew = wd at *
  refine chainL_take (v := ?_) (by simp only [List.getElem?_toArray, List.getElem?_cons_zero, List.getElem?_cons_succ]; rfl) (by rfl) (fun w hS => ?_) ?_
  rotate_left
  · go_simp <;> with_reducible rfl
  simp only [Act.put, List.setIfInBounds_toArray, List.set_cons_zero, List.set_cons_succ]
  refine chainL_take (v := ?_) (by simp only [List.getElem?_toArray, List.getElem?_cons_zero, List.getElem?_cons_succ]; rfl) (by rfl) (fun w hS => ?_) ?_
  rotate_left
  · go_simp <;> with_reducible rfl
  simp only [Act.put, List.setIfInBounds_toArray, List.set_cons_zero, List.set_cons_succ]
  refine chainL_take (v := ?_) (by simp only [List.getElem?_toArray, List.getElem?_cons_zero]; rfl) (by rfl) (fun w hS => ?_) ?_
  rotate_left
  · go_simp <;> with_reducible rfl
  simp only [Act.put, List.setIfInBounds_toArray, List.set_cons_zero, List.set_cons_succ]
  have HV1 := hide (HV.out.alloc (.cells #[.int .u64 (N : Int)] 22))
  have HB1 : Hid (Below wd.heap.size wd (wd.alloc (.cells #[.int .u64 (N : Int)] 22))) := (Below.refl _ _).alloc (Nat.le_refl _) _
  have HI : Hid (Ints .u64 (wd.alloc (.cells #[.int .u64 (N : Int)] 22)) (some ⟨wd.heap.size, 0, none⟩) [(N : Int)]) := Ints.new .u64 wd 22 [(N : Int)]
  refine chainL_alone (by simp only [List.getElem?_toArray, List.getElem?_cons_zero, List.getElem?_cons_succ]; rfl) ?_
  intro K hK
  go_wp2
  refine hK.out _ _ (HV1.out.cell 0) ?_
  clear hK K
  refine chainL_alone (by simp only [List.getElem?_toArray, List.getElem?_cons_zero, List.getElem?_cons_succ]; rfl) ?_
  intro K hK
  go_wp2_with fail
  refine (nu_bytes_any _ _ _ [(N : Int)] _ HI.out rfl (by simp) (by simp; omega)).mono ?_
  rintro e w2 ⟨x, rfl, hx⟩
  obtain ⟨A2, c2, rfl, i2, n2, z2, -⟩ := hx.form2
  rw [encAll_one, Int.toNat_natCast] at i2 n2 ⊢
  have HV2 := hide (HV1.out.later hx.bel)
  have HB2 := hide (HB1.out.trans (hx.bel.mono HB1.out.size))
  have HO2 := hide ((HO.out.later HB2.out).now)
  have HI2 := hide i2
  have HZ2 := hide z2
  have HX2 := hide hx.bel
  clear hx i2 z2
  go_wp2
  refine hK.out _ _ (HV2.out.cell 0) ?_
  clear hK K
  refine chainL_alone (by simp only [List.getElem?_toArray, List.getElem?_cons_zero, List.getElem?_cons_succ]; rfl) ?_
  intro K hK
  refine wpList_catG elemBytes rfl _ _ rfl rfl rfl HO2.out HI2.out rfl HZ2.out (by omega) (by omega) ?_
  intro v3 w3 hown st
  have HA3 := hide (Ap.row (p := p) HO2.out (hown.bel.mono (Nat.le_refl _)) st)
  have HV3 := hide (Others.of HO2.out st p 36 _ (by decide) HV2.out)
  obtain ⟨A3, c3, hv3, -, -, -⟩ := hown.form
  obtain ⟨L3, hL3⟩ : ∃ L3, (bs ++ enc N).length = L3 := ⟨_, rfl⟩
  rw [hL3] at hv3
  subst hv3
  have HO3 := hide hown
  clear hown st
  go_wp2
  refine hK.out _ _ (HV3.out.cell 0) ?_
  clear hK K
  have e1 : w3.cell? ⟨p, 0, none⟩ = some v := HV3.out.cell 0
  have z1 := HV3.out.frozen 0
  have l3 := HV3.out.lt
  refine chainL_late (by simp only [List.getElem?_toArray, List.getElem?_cons_zero, List.getElem?_cons_succ]; rfl) ?_
  intro K hK
  go_wp2
  refine hK.out _ _ ?_
  clear hK K
  refine chainL_nil ?_
  have hst : Stay5 w3 (w3.setCell ⟨p, 0, none⟩ (.slice A3 L3 c3)) := Stay5.put HV3.out
  go_end0
  refine ⟨rfl, ⟨⟨_, HV3.out.put 0 _, hst.own HO3.out.now (by simp [World.setCell])⟩, hge⟩, ?_⟩
  exact ((HWD.out.trans (Ap.of_below HB2.out HLD.out)).trans HA3.out).trans (Ap.put hge)
def pn_eqP (f g b f' g' b' : Int) : Bool := (f == f') && ((g == g') && (b == b'))
def threeFields (P : Program) (t : TypeId) : Prop := (P.fieldsOf t).toList.map (fun f => (f.name == "_", f.type, f.offset)) = [(false, 5, 0), (false, 5, 1), (false, 5, 2)]
theorem fields103 : threeFields Tryz.prog 103 := by unfold threeFields; kernel_rfl
theorem pn_part5 (xs : Array Value) (i : Nat) (x : Int) (h : xs[i]? = some (.int .u8 x)) (w : World) : (part 5 xs i).run Tryz.prog w = .ok (.int .u8 x) w := by
  unfold part
  simp [go_sem, h]
theorem equal3 (t : TypeId) (ht : Tryz.prog.underlying t = some (.struct (Tryz.prog.fieldsOf t))) (hp : Tryz.prog.stoodInHeld t = false) (h3 : threeFields Tryz.prog t) (d : Nat) (w : World) (f g b f' g' b' : Int) :
    (Op.equalIn (d + 2) t (.agg #[.int .u8 f, .int .u8 g, .int .u8 b]) (.agg #[.int .u8 f', .int .u8 g', .int .u8 b'])).run Tryz.prog w = .ok (pn_eqP f g b f' g' b') w := by
  rw [run_equalIn_agg w (d + 1) t _ _ ht hp]
  unfold threeFields at h3
  generalize (Tryz.prog.fieldsOf t).toList = fs at h3
  have hl : fs.length = 3 := by have := congrArg List.length h3; simpa using this
  match fs, hl with
  | [f0, f1, f2], _ =>
    simp only [List.map_cons, List.map_nil, List.cons.injEq, Prod.mk.injEq, beq_eq_false_iff_ne, ne_eq, and_true] at h3
    obtain ⟨⟨n0, t0, o0⟩, ⟨n1, t1, o1⟩, n2, t2, o2⟩ := h3
    simp only [Op.eqFields, n0, n1, n2, t0, t1, t2, o0, o1, o2, ne_eq, not_false_eq_true, if_true, Sem.run_bind, pn_part5 #[Value.int .u8 f, .int .u8 g, .int .u8 b] 0 f rfl, pn_part5 #[Value.int .u8 f, .int .u8 g, .int .u8 b] 1 g rfl, pn_part5 #[Value.int .u8 f, .int .u8 g, .int .u8 b] 2 b rfl,
      pn_part5 #[Value.int .u8 f', .int .u8 g', .int .u8 b'] 0 f' rfl, pn_part5 #[Value.int .u8 f', .int .u8 g', .int .u8 b'] 1 g' rfl, pn_part5 #[Value.int .u8 f', .int .u8 g', .int .u8 b'] 2 b' rfl, Result.andThen_ok, run_equalIn_int w d 5 .u8 .u8 _ _ Tryz.underlying5, Sem.run_ite, Sem.run_pure]
    unfold pn_eqP
    cases hf : f == f' <;> cases hg : g == g' <;> cases hb : b == b' <;> simp
theorem eql103 (f g b f' g' b' : Int) (w : World) : (binOp .eql 103 (.agg #[.int .u8 f, .int .u8 g, .int .u8 b]) (.agg #[.int .u8 f', .int .u8 g', .int .u8 b'])).run Tryz.prog w = .ok (.bool (pn_eqP f g b f' g' b')) w := by
  rw [run_eql_struct, equal3 103 Tryz.underlying103 Tryz.stoodInHeld103 fields103 9998]; rfl
theorem pn_bcell {W w1 : World} (hb : Below W.heap.size W w1) : (∀ b o, b < W.heap.size → w1.cell? ⟨b, o, none⟩ = W.cell? ⟨b, o, none⟩) ∧ (∀ b o, b < W.heap.size → w1.frozen? ⟨b, o, none⟩ = W.frozen? ⟨b, o, none⟩) :=
  ⟨fun b o h => hb.cell (p := ⟨b, o, none⟩) h, fun b o h => hb.frozen (p := ⟨b, o, none⟩) h⟩
/-- Two pens' blocks just made: the first one. -/
theorem two_whole (w : World) (t : TypeId) (l : List Value) (o : Obj) : Whole ((w.alloc (.cells l.toArray t)).alloc o) w.heap.size t l := (Whole.new w t l).alloc o
theorem pn_whole_snd (w : World) (o : Obj) (t : TypeId) (l : List Value) : Whole ((w.alloc o).alloc (.cells l.toArray t)) (w.heap.size + 1) t l := by
  have := Whole.new (w.alloc o) t l
  have e : (w.alloc o).heap.size = w.heap.size + 1 := by simp
  rw [e] at this
  exact this
theorem pn_eqP_right (f g b : Nat) : pn_eqP (f : Int) (g : Int) (b : Int) (min (f : Int) 31) (min (g : Int) 16) (min (b : Int) 16) = rightN ⟨f, g, b⟩ := by
  unfold pn_eqP rightN
  rw [Bool.eq_iff_iff]
  simp
  omega

/-- A pen stored over another one. -/
theorem pn_put3 {w : World} {q : Nat} {t : TypeId} {x y z x' y' z' : Value} (hw : Whole w q t [x, y, z]) : Whole (((w.setCell ⟨q, 0, none⟩ x').setCell ⟨q, 1, none⟩ y').setCell ⟨q, 2, none⟩ z') q t [x', y', z'] :=
  ((hw.put 0 x').put 1 y').put 2 z'
theorem pn_right_any (f g b : Nat) (w : World) : Calls Tryz.prog 75 #[.agg #[.int .u8 (f : Int), .int .u8 (g : Int), .int .u8 (b : Int)]] w (Said (rightN ⟨f, g, b⟩) w) := by
  have e1 := eql103
  go_enter Tryz.func75, Tryz.ntmps75
  go_wp2
  go_ret
  exact ⟨ret_bool (pn_eqP_right f g b), (Below.refl _ _).alloc (Nat.le_refl _) _⟩
theorem pn_rright_any (f g b : Nat) (w : World) : Calls Tryz.prog 73 #[.agg #[.int .u8 (f : Int), .int .u8 (g : Int), .int .u8 (b : Int)]] w (Said (rightN ⟨f, g, b⟩) w) := by
  by_cases h1 : (f : Int) ≤ 31
  · by_cases h2 : (g : Int) ≤ 16
    · by_cases h3 : (b : Int) ≤ 16
      · have H : Hid (rightN ⟨f, g, b⟩ = true) := by unfold Hid rightN; simp; omega
        go_enter Tryz.func73, Tryz.ntmps73
        go_wp2
        go_ret
        exact ⟨ret_bool H.out.symm, (Below.refl _ _).alloc (Nat.le_refl _) _⟩
      · have H : Hid (rightN ⟨f, g, b⟩ = false) := by unfold Hid rightN; simp; omega
        go_enter Tryz.func73, Tryz.ntmps73
        go_wp2
        go_ret
        exact ⟨ret_bool H.out.symm, (Below.refl _ _).alloc (Nat.le_refl _) _⟩
    · have H : Hid (rightN ⟨f, g, b⟩ = false) := by unfold Hid rightN; simp; omega
      go_enter Tryz.func73, Tryz.ntmps73
      go_wp2
      go_ret
      exact ⟨ret_bool H.out.symm, (Below.refl _ _).alloc (Nat.le_refl _) _⟩
  · have H : Hid (rightN ⟨f, g, b⟩ = false) := by unfold Hid rightN; simp; omega
    go_enter Tryz.func73, Tryz.ntmps73
    go_wp2
    go_ret
    exact ⟨ret_bool H.out.symm, (Below.refl _ _).alloc (Nat.le_refl _) _⟩

/-! ### the document's tables -/
/-! ### the program's colors -/
theorem pn_below_put3 {B : Nat} {w w1 : World} {q : Nat} (h : Below B w w1) (hq : B ≤ q) (x y z : Value) : Below B w (((w1.setCell ⟨q, 0, none⟩ x).setCell ⟨q, 1, none⟩ y).setCell ⟨q, 2, none⟩ z) := ((h.setCell hq _).setCell hq _).setCell hq _
theorem num_right (f g b : Nat) (h : rightN ⟨f, g, b⟩ = true) : numN ⟨f, g, b⟩ = (f : Int) + 32 * (g : Int) + 1024 * (b : Int) := by unfold numN; rw [if_pos h]
theorem num_not (f g b : Nat) (h : rightN ⟨f, g, b⟩ = false) : numN ⟨f, g, b⟩ = -1 := by unfold numN; rw [h]; rfl
theorem right_bd (f g b : Nat) (h : rightN ⟨f, g, b⟩ = true) : f ≤ 31 ∧ g ≤ 16 ∧ b ≤ 16 := by
  unfold rightN at h
  simp only [Bool.and_eq_true, decide_eq_true_eq] at h
  obtain ⟨h1, h2, h3⟩ := h
  exact ⟨h1, h2, h3⟩

theorem number_any (f g b : Nat) (w : World) : Calls Tryz.prog 81 #[.agg #[.int .u8 (f : Int), .int .u8 (g : Int), .int .u8 (b : Int)]] w (Num .i64 (numN ⟨f, g, b⟩) w) := by
  cases hr : rightN ⟨f, g, b⟩
  · have HR := hide hr
    have HN := hide (num_not f g b hr)
    clear hr
    go_enter Tryz.func81, Tryz.ntmps81
    go_wp2_with fail
    refine (pn_right_any f g b _).mono ?_
    rintro e w1 ⟨rfl, hb1⟩
    rw [HR.out]
    go_wp2
    go_ret
    exact ⟨ret_int HN.out.symm, ((Below.refl _ _).alloc (Nat.le_refl _) _).trans (hb1.mono (by simp))⟩
  · have HR := hide hr
    have HN := hide (num_right f g b hr)
    obtain ⟨h1, h2, h3⟩ := right_bd f g b hr
    clear hr
    go_enter Tryz.func81, Tryz.ntmps81
    go_wp2_with fail
    refine (pn_right_any f g b _).mono ?_
    rintro e w1 ⟨rfl, hb1⟩
    rw [HR.out]
    obtain ⟨hc, hz⟩ := pn_bcell hb1
    go_wp2
    go_ret
    exact ⟨ret_int (HN.out.symm), ((Below.refl _ _).alloc (Nat.le_refl _) _).trans (hb1.mono (by simp))⟩
end
end Go.Proofs.YtcbdokocnjoilaaGreatDoor
