/-
  A region that leaves its order open, walked in one order under a fact S on the worlds that is asked up to operation k alone (a store at the region's end may undo it): what is taken early under S must be waited for by k. Of no program.
-/
import Derived.Test.YtfngnmopdfojmaaChainH
namespace Go.Proofs.Ytfngnmopdfojmaa
set_option maxRecDepth 100000
open Go.RowKit

section
variable {P : Program} {ops : Array Oper} {Q : Exit → Act → World → Prop} {S : World → Prop} {k : Nat}

/-- Whatever order is picked from here on, and S holds behind every operation up to k. -/
def wpAnyL (P : Program) (ops : Array Oper) (Q : Exit → Act → World → Prop) (S : World → Prop) (k : Nat) : Nat → Array Bool → Act → World → Prop
  | 0, listed, a, w => Region.ready .any ops listed = [] ∧ Q .normal a w
  | fuel + 1, listed, a, w =>
    (Region.ready .any ops listed = [] → Q .normal a w) ∧
    ∀ i ∈ Region.ready .any ops listed, wpOp P ops Q i (fun a' w' => ((listed.setIfInBounds i true).getD k false = true ∨ S w') ∧ wpAnyL P ops Q S k fuel (listed.setIfInBounds i true) a' w') a w
theorem wpAny_of_L : ∀ (fuel : Nat) (listed : Array Bool) (a : Act) (w : World), wpAnyL P ops Q S k fuel listed a w → wpAny P .any ops Q fuel listed a w
  | 0, _, _, _, h => h
  | fuel + 1, _, _, _, h => ⟨h.1, fun i hi => wpOp_mono (fun a' w' h' => wpAny_of_L fuel _ a' w' h'.2) (h.2 i hi)⟩
/-- What has come up had all that it waits for. -/
def ClosedL (ops : Array Oper) (listed : Array Bool) : Prop := ∀ j o, ops[j]? = some o → listed.getD j false = true → ∀ e ∈ o.after, Region.binds .any e = true → listed.getD e.on false = true
theorem ClosedL.set {listed : Array Bool} (h : ClosedL ops listed) {j : Nat} (hj : j ∈ Region.ready .any ops listed) : ClosedL ops (listed.setIfInBounds j true) := by
  obtain ⟨h0, oj, hoj, hall⟩ := mem_ready.1 hj
  intro i o ho hl e he hb
  by_cases hij : j = i
  · subst hij
    rw [hoj] at ho
    cases ho
    exact getD_set_true (hall e he hb)
  · rw [getD_set_ne false hij] at hl
    exact getD_set_true (h i o ho hl e he hb)
def waitsB (ops : Array Oper) : Nat → Nat → Nat → Bool
  | 0, _, _ => false
  | n + 1, k, i => match ops[k]? with
    | some o => (o.after.toList.any fun e => Region.binds .any e && e.on == i) || o.after.toList.any fun e => Region.binds .any e && waitsB ops n e.on i
    | none => false
theorem waits_listed {listed : Array Bool} (hc : ClosedL ops listed) {i : Nat} : ∀ n k, listed.getD k false = true → waitsB ops n k i = true → listed.getD i false = true := by
  intro n
  induction n with
  | zero => intro k _ h; cases h
  | succ n ih =>
    intro k hk h
    unfold waitsB at h
    split at h
    · rename_i o ho
      rcases (Bool.or_eq_true _ _).mp h with h | h
      · obtain ⟨e, he, hb⟩ := List.any_eq_true.1 h
        simp only [Bool.and_eq_true, beq_iff_eq] at hb
        rw [← hb.2]
        exact hc k o ho hk e (by simpa using he) hb.1
      · obtain ⟨e, he, hb⟩ := List.any_eq_true.1 h
        simp only [Bool.and_eq_true] at hb
        exact ih _ (hc k o ho hk e (by simpa using he) hb.1) hb.2
    · cases h
theorem waits_ready {listed : Array Bool} (hc : ClosedL ops listed) {i n : Nat} (hk : k ∈ Region.ready .any ops listed) (h : waitsB ops n k i = true) : listed.getD i false = true := by
  obtain ⟨_, o, ho, hall⟩ := mem_ready.1 hk
  cases n with
  | zero => cases h
  | succ n =>
    unfold waitsB at h
    rw [ho] at h
    rcases (Bool.or_eq_true _ _).mp h with h | h
    · obtain ⟨e, he, hb⟩ := List.any_eq_true.1 h
      simp only [Bool.and_eq_true, beq_iff_eq] at hb
      rw [← hb.2]
      exact hall e (by simpa using he) hb.1
    · obtain ⟨e, he, hb⟩ := List.any_eq_true.1 h
      simp only [Bool.and_eq_true] at hb
      exact waits_listed hc _ _ (hall e (by simpa using he) hb.1) hb.2
theorem unlisted {listed : Array Bool} {i : Nat} (h : i ∈ Region.ready .any ops listed) : listed.getD i false = false := by
  have h0 := (mem_ready.1 h).1
  rcases Nat.lt_or_ge i listed.size with h' | h'
  · simp [h'] at h0 ⊢; exact h0
  · simp [Array.getElem?_eq_none h']

/-- An operation that yields under S may be taken first, where k waits for it. -/
theorem wpAnyL_first {i n : Nat} {oi : Oper} {v : Value} (hi : ops[i]? = some oi) (hsel : ∀ (j : Nat) (o : Oper) cs b, ops[j]? = some o → o.op ≠ .select cs b)
    (hQ : ∀ c a w, Q (.panic c) (a.put oi.dst v) w → Q (.panic c) a w) (hwait : waitsB ops n k i = true) :
    ∀ (fuel : Nat) (listed : Array Bool) (a : Act) (w : World),
      (∀ j oj, ops[j]? = some oj → j ≠ i → listed.getD j true = false → (∀ e ∈ oj.after, Region.binds .any e = true → e.on ≠ i) → oi.apart ops oj = true) →
      i ∈ Region.ready .any ops listed → YieldsIf P ops S oi v a → ClosedL ops listed → listed.getD k false = false → S w →
      wpAnyL P ops Q S k fuel (listed.setIfInBounds i true) (a.put oi.dst v) w → wpAnyL P ops Q S k (fuel + 1) listed a w := by
  intro fuel
  induction fuel with
  | zero =>
    intro listed a w _ hr hy hc hk hS H
    refine ⟨fun h => (by rw [h] at hr; cases hr), fun j hj => ?_⟩
    by_cases hji : j = i
    · subst hji; exact hy.wpOp hi hS ⟨.inr hS, H⟩
    · have := ready_mono hj hji
      rw [H.1] at this
      cases this
  | succ fuel ih =>
    intro listed a w hfree hr hy hc hk hS H
    refine ⟨fun h => (by rw [h] at hr; cases hr), fun j hj => ?_⟩
    by_cases hji : j = i
    · subst hji; exact hy.wpOp hi hS ⟨.inr hS, H⟩
    · have hjk : j ≠ k := by
        rintro rfl
        have h1 := waits_ready hc hj hwait
        rw [unlisted hr] at h1
        cases h1
      have hik : i ≠ k := by
        rintro rfl
        have h1 := waits_ready hc hr hwait
        rw [unlisted hr] at h1
        cases h1
      have h1 := H.2 j (ready_mono hj hji)
      obtain ⟨hjun, oj, hoj, hall⟩ := mem_ready.1 hj
      have hnot : ∀ e ∈ oj.after, Region.binds .any e = true → e.on ≠ i := fun e he hb heq => by
        have h1 := hall e he hb
        rw [heq, unlisted hr] at h1
        cases h1
      have h2 := wpOp_putIf hoj (hfree j oj hoj hji hjun hnot) (fun cs b => hsel i oi cs b hi) (fun cs b => hsel j oj cs b hoj) hQ hy h1
      have hfree' : ∀ k ok, ops[k]? = some ok → k ≠ i → (listed.setIfInBounds j true).getD k true = false →
          (∀ e ∈ ok.after, Region.binds .any e = true → e.on ≠ i) → oi.apart ops ok = true := fun k ok hk hki hun hno => by
        refine hfree k ok hk hki ?_ hno
        by_cases hjk : j = k
        · subst hjk; exact hjun
        · rw [getD_set_ne true hjk] at hun; exact hun
      refine wpOp_mono (fun a' w' h3 => ?_) h2
      have hS' : S w' := by
        rcases h3.2.1 with q | q
        · rw [getD_set_ne false hjk, getD_set_ne false hik, hk] at q
          cases q
        · exact q
      refine ⟨.inr hS', ih (listed.setIfInBounds j true) a' w' hfree' (ready_mono hr (Ne.symm hji)) h3.1 (hc.set hj) (by rw [getD_set_ne false hjk]; exact hk) hS' ?_⟩
      rw [Array.setIfInBounds_comm _ _ hji]
      exact h3.2.2
/-- One that yields in whatever world may be taken first anyway. -/
theorem wpAnyL_pure {i : Nat} {oi : Oper} {v : Value} (hi : ops[i]? = some oi) (hsel : ∀ (j : Nat) (o : Oper) cs b, ops[j]? = some o → o.op ≠ .select cs b)
    (hQ : ∀ c a w, Q (.panic c) (a.put oi.dst v) w → Q (.panic c) a w) (hik : i ≠ k) :
    ∀ (fuel : Nat) (listed : Array Bool) (a : Act) (w : World),
      (∀ j oj, ops[j]? = some oj → j ≠ i → listed.getD j true = false → (∀ e ∈ oj.after, Region.binds .any e = true → e.on ≠ i) → oi.apart ops oj = true) →
      i ∈ Region.ready .any ops listed → YieldsIf P ops (fun _ => True) oi v a → (listed.getD k false = true ∨ S w) →
      wpAnyL P ops Q S k fuel (listed.setIfInBounds i true) (a.put oi.dst v) w → wpAnyL P ops Q S k (fuel + 1) listed a w := by
  intro fuel
  induction fuel with
  | zero =>
    intro listed a w _ hr hy hS H
    refine ⟨fun h => (by rw [h] at hr; cases hr), fun j hj => ?_⟩
    by_cases hji : j = i
    · subst hji; exact hy.wpOp hi trivial ⟨by rw [getD_set_ne false hik]; exact hS, H⟩
    · have := ready_mono hj hji
      rw [H.1] at this
      cases this
  | succ fuel ih =>
    intro listed a w hfree hr hy hS H
    refine ⟨fun h => (by rw [h] at hr; cases hr), fun j hj => ?_⟩
    by_cases hji : j = i
    · subst hji; exact hy.wpOp hi trivial ⟨by rw [getD_set_ne false hik]; exact hS, H⟩
    · have h1 := H.2 j (ready_mono hj hji)
      obtain ⟨hjun, oj, hoj, hall⟩ := mem_ready.1 hj
      have hnot : ∀ e ∈ oj.after, Region.binds .any e = true → e.on ≠ i := fun e he hb heq => by
        have h1 := hall e he hb
        rw [heq, unlisted hr] at h1
        cases h1
      have h2 := wpOp_putIf hoj (hfree j oj hoj hji hjun hnot) (fun cs b => hsel i oi cs b hi) (fun cs b => hsel j oj cs b hoj) hQ hy h1
      have hfree' : ∀ k ok, ops[k]? = some ok → k ≠ i → (listed.setIfInBounds j true).getD k true = false →
          (∀ e ∈ ok.after, Region.binds .any e = true → e.on ≠ i) → oi.apart ops ok = true := fun k ok hk hki hun hno => by
        refine hfree k ok hk hki ?_ hno
        by_cases hjk : j = k
        · subst hjk; exact hjun
        · rw [getD_set_ne true hjk] at hun; exact hun
      refine wpOp_mono (fun a' w' h3 => ?_) h2
      have hS' : (listed.setIfInBounds j true).getD k false = true ∨ S w' := by
        rcases h3.2.1 with q | q
        · rw [Array.setIfInBounds_comm _ _ (Ne.symm hji), getD_set_ne false hik] at q
          exact .inl q
        · exact .inr q
      refine ⟨hS', ih (listed.setIfInBounds j true) a' w' hfree' (ready_mono hr (Ne.symm hji)) h3.1 hS' ?_⟩
      rw [Array.setIfInBounds_comm _ _ hji]
      exact h3.2.2

/-- '(0, i)': number i is taken early, under S. '(1, i)': it comes up alone, and S holds behind it. '(2, i)': it is taken early, in whatever world. '(3, i)': it comes up alone, at k or behind it. -/
def wpChainL (P : Program) (ops : Array Oper) (Q : Exit → Act → World → Prop) (S : World → Prop) : List (Nat × Nat) → Act → World → Prop
  | [], a, w => Q .normal a w
  | (0, i) :: r, a, w => match ops[i]? with
    | some o => ∃ v, YieldsIf P ops S o v a ∧ wpChainL P ops Q S r (a.put o.dst v) w
    | none => False
  | (1, i) :: r, a, w => match ops[i]? with
    | some o => ∀ K : Act → World → Prop, (∀ a w, S w → wpChainL P ops Q S r a w → K a w) → wpList P ops (Exit.then K Q) [o] a w
    | none => False
  | (2, i) :: r, a, w => match ops[i]? with
    | some o => ∃ v, YieldsIf P ops (fun _ => True) o v a ∧ wpChainL P ops Q S r (a.put o.dst v) w
    | none => False
  | (_, i) :: r, a, w => match ops[i]? with
    | some o => ∀ K : Act → World → Prop, (∀ a w, wpChainL P ops Q S r a w → K a w) → wpList P ops (Exit.then K Q) [o] a w
    | none => False
def chainOkL (ops : Array Oper) (k : Nat) : List (Nat × Nat) → Array Bool → Bool
  | [], listed => (Region.ready .any ops listed).isEmpty
  | (0, i) :: r, listed => Region.free .any ops listed i && (Region.ready .any ops listed).contains i && waitsB ops ops.size k i && (listed.getD k false == false) && chainOkL ops k r (listed.setIfInBounds i true)
  | (1, i) :: r, listed => (Region.ready .any ops listed == [i]) && chainOkL ops k r (listed.setIfInBounds i true)
  | (2, i) :: r, listed => Region.free .any ops listed i && (Region.ready .any ops listed).contains i && (i != k) && chainOkL ops k r (listed.setIfInBounds i true)
  | (_, i) :: r, listed => (Region.ready .any ops listed == [i]) && ((listed.setIfInBounds i true).getD k false) && chainOkL ops k r (listed.setIfInBounds i true)
theorem any_of_chainL (hs : Region.noSelect ops = true) (hQ : ∀ c (d : Tmp) v a w, Q (.panic c) (Act.put a (some d) v) w → Q (.panic c) a w) :
    ∀ (l : List (Nat × Nat)) (listed : Array Bool) (a : Act) (w : World), chainOkL ops k l listed = true → ClosedL ops listed → (listed.getD k false = true ∨ S w) → wpChainL P ops Q S l a w → wpAnyL P ops Q S k l.length listed a w := by
  intro l
  induction l with
  | nil =>
    intro listed a w hok _ _ h
    exact ⟨by simpa [chainOkL] using hok, h⟩
  | cons x r ih =>
    obtain ⟨b, i⟩ := x
    intro listed a w hok hc hS h
    have hput : ∀ (o : Oper) (v : Value) c a w, Q (.panic c) (Act.put a o.dst v) w → Q (.panic c) a w := by
      intro o v c a w hh
      cases hd : o.dst with
      | none => rw [hd] at hh; exact hh
      | some d => rw [hd] at hh; exact hQ c d v a w hh
    have alone : ∀ {T : World → Prop}, Region.ready .any ops listed = [i] → (∀ w', T w' → ((listed.setIfInBounds i true).getD k false = true ∨ S w')) → chainOkL ops k r (listed.setIfInBounds i true) = true →
        (match ops[i]? with
          | some o => ∀ K : Act → World → Prop, (∀ a w, T w → wpChainL P ops Q S r a w → K a w) → wpList P ops (Exit.then K Q) [o] a w
          | none => False) → wpAnyL P ops Q S k (r.length + 1) listed a w := by
      intro T hr hT hok h
      refine ⟨fun h0 => (by rw [hr] at h0; cases h0), fun j hj => ?_⟩
      have hj' := hj
      rw [hr] at hj
      obtain rfl : j = i := by simpa using hj
      obtain ⟨_, o, ho, _⟩ := mem_ready.1 hj'
      rw [ho] at h
      have h := h (fun a' w' => ((listed.setIfInBounds j true).getD k false = true ∨ S w') ∧ wpAnyL P ops Q S k r.length (listed.setIfInBounds j true) a' w') (fun a' w' hS' h' => ⟨hT w' hS', ih _ a' w' hok (hc.set hj') (hT w' hS') h'⟩)
      unfold wpOp
      simp only [ho]
      unfold wpList at h
      split at h
      · rename_i hw
        rw [if_pos hw]
        rcases h with h | ⟨h1, h2⟩
        · exact .inl (upon_list (fun a' w' h' => h') _ h)
        · exact .inr ⟨h1, h2⟩
      · rename_i hw
        rw [if_neg hw]
        exact h
    match b with
    | 0 =>
      simp only [chainOkL, Bool.and_eq_true, beq_iff_eq] at hok
      obtain ⟨⟨⟨⟨hf, hr⟩, hwt⟩, hk⟩, hok⟩ := hok
      have hmem : i ∈ Region.ready .any ops listed := by simpa using hr
      obtain ⟨_, o, ho, _⟩ := mem_ready.1 hmem
      simp only [wpChainL, ho] at h
      obtain ⟨v, hy, h⟩ := h
      have hSw : S w := by
        rcases hS with q | q
        · rw [hk] at q; cases q
        · exact q
      exact wpAnyL_first ho (Region.noSelect_spec hs) (hput o v) hwt _ listed a w (Region.free_spec ho hf) hmem hy hc hk hSw (ih _ _ _ hok (hc.set hmem) (.inr hSw) h)
    | 1 =>
      simp only [chainOkL, Bool.and_eq_true, beq_iff_eq] at hok
      exact alone (T := S) hok.1 (fun w' q => .inr q) hok.2 h
    | 2 =>
      simp only [chainOkL, Bool.and_eq_true, bne_iff_ne, ne_eq] at hok
      obtain ⟨⟨⟨hf, hr⟩, hik⟩, hok⟩ := hok
      have hmem : i ∈ Region.ready .any ops listed := by simpa using hr
      obtain ⟨_, o, ho, _⟩ := mem_ready.1 hmem
      simp only [wpChainL, ho] at h
      obtain ⟨v, hy, h⟩ := h
      exact wpAnyL_pure ho (Region.noSelect_spec hs) (hput o v) hik _ listed a w (Region.free_spec ho hf) hmem hy hS (ih _ _ _ hok (hc.set hmem) (by rw [getD_set_ne false hik]; exact hS) h)
    | b + 3 =>
      simp only [chainOkL, Bool.and_eq_true, beq_iff_eq] at hok
      refine alone (T := fun _ => True) hok.1.1 (fun w' _ => .inl hok.1.2) hok.2 ?_
      obtain ⟨_, o, ho, _⟩ := mem_ready.1 (show i ∈ Region.ready .any ops listed by rw [hok.1.1]; simp)
      simp only [wpChainL, ho] at h ⊢
      exact fun K hK => h K fun a' w' h' => hK a' w' trivial h'
/-- A REGION THAT DRAWS ITS ORDER, in the order of the chain; S is asked up to k. -/
theorem wp_region_chainL {id : Nat} {a : Act} {w : World} (S : World → Prop) (k : Nat) (l : List (Nat × Nat)) (hm : P.follows .mixedOrders = true) (hs : Region.noSelect ops = true)
    (hok : (chainOkL ops k l (Array.replicate ops.size false) && (l.length == ops.size)) = true) (hQ : ∀ c (d : Tmp) v a w, Q (.panic c) (Act.put a (some d) v) w → Q (.panic c) a w)
    (hS : S w.drew) (h : wpChainL P ops Q S l a w.drew) : (Code.region id ops true).wp P Q a w := by
  simp only [Bool.and_eq_true, beq_iff_eq] at hok
  refine wp_region_any hm (wpAny_of_L (S := S) (k := k) _ _ _ _ ?_)
  rw [← hok.2]
  refine any_of_chainL hs hQ l _ a _ (by rw [hok.2]; exact hok.1) ?_ (.inr hS) h
  intro j o ho hl
  simp only [Array.getD_eq_getD_getElem?, Array.getElem?_replicate] at hl
  split at hl <;> simp at hl
theorem chainL_alone {i : Nat} {r : List (Nat × Nat)} {o : Oper} {a : Act} {w : World} (ho : ops[i]? = some o)
    (h : ∀ K : Act → World → Prop, Hid (∀ a w, S w → wpChainL P ops Q S r a w → K a w) → wpList P ops (Exit.then K Q) [o] a w) : wpChainL P ops Q S ((1, i) :: r) a w := by
  simp only [wpChainL, ho]
  exact fun K hK => h K hK
theorem chainL_late {i : Nat} {r : List (Nat × Nat)} {o : Oper} {a : Act} {w : World} (ho : ops[i]? = some o)
    (h : ∀ K : Act → World → Prop, Hid (∀ a w, wpChainL P ops Q S r a w → K a w) → wpList P ops (Exit.then K Q) [o] a w) : wpChainL P ops Q S ((3, i) :: r) a w := by
  simp only [wpChainL, ho]
  exact fun K hK => h K hK
theorem chainL_nil {a : Act} {w : World} (h : Q .normal a w) : wpChainL P ops Q S [] a w := h
theorem chainL_take {i : Nat} {r : List (Nat × Nat)} {o : Oper} {v : Value} {a : Act} {w : World} (ho : ops[i]? = some o) (hw : Region.wanted o (yielded ops a.tmps) = true)
    (hy : ∀ w, S w → (execOp a.eval o).run P w = .ok (.value v) w) (h : wpChainL P ops Q S r (a.put o.dst v) w) : wpChainL P ops Q S ((0, i) :: r) a w := by
  simp only [wpChainL, ho]
  exact ⟨v, Or.inl ⟨hw, hy⟩, h⟩
theorem chainL_pure {i : Nat} {r : List (Nat × Nat)} {o : Oper} {v : Value} {a : Act} {w : World} (ho : ops[i]? = some o) (hw : Region.wanted o (yielded ops a.tmps) = true)
    (hy : ∀ w, (execOp a.eval o).run P w = .ok (.value v) w) (h : wpChainL P ops Q S r (a.put o.dst v) w) : wpChainL P ops Q S ((2, i) :: r) a w := by
  simp only [wpChainL, ho]
  exact ⟨v, Or.inl ⟨hw, fun w _ => hy w⟩, h⟩
end
end Go.Proofs.Ytfngnmopdfojmaa
