/-
  Contracts and plain mathematics of ChainL, ChainT, WMath, CMath, LMath, CEq.
-/
import Derived.Test.YtoddfaoifnkhlaaGreatDoorB1
import Derived.Test.YtoddfaoifnkhlaaGreatDoorChecked
import Derived.Laws.StructEq
import Derived.ChangeKeysEq
namespace Go.Proofs.YtoddfaoifnkhlaaGreatDoor
set_option maxRecDepth 100000
set_option linter.unusedVariables false
set_option maxHeartbeats 8000000
section
open Go.RowKit
section
variable {P : Program} {ops : Array Oper} {Q : Exit → Act → World → Prop} {S : World → Prop} {k : Nat}
def wpAnyL (P : Program) (ops : Array Oper) (Q : Exit → Act → World → Prop) (S : World → Prop) (k : Nat) : Nat → Array Bool → Act → World → Prop
 | 0, listed, a, w => Region.ready .any ops listed = [] ∧ Q .normal a w
 | fuel + 1, listed, a, w =>
  (Region.ready .any ops listed = [] → Q .normal a w) ∧
  ∀ i ∈ Region.ready .any ops listed, wpOp P ops Q i (fun a' w' => ((listed.setIfInBounds i true).getD k false = true ∨ S w') ∧ wpAnyL P ops Q S k fuel (listed.setIfInBounds i true) a' w') a w
theorem wpAny_of_L : ∀ (fuel : Nat) (listed : Array Bool) (a : Act) (w : World), wpAnyL P ops Q S k fuel listed a w → wpAny P .any ops Q fuel listed a w
 | 0, _, _, _, h => h
 | fuel + 1, _, _, _, h => ⟨h.1, fun i hi => wpOp_mono (fun a' w' h' => wpAny_of_L fuel _ a' w' h'.2) (h.2 i hi)⟩
def ClosedL (ops : Array Oper) (listed : Array Bool) : Prop := ∀ j o, ops[j]? = some o → listed.getD j false = true → ∀ e ∈ o.after, Region.binds .any e = true → listed.getD e.on false = true
theorem ClosedL.set {listed : Array Bool} (h : ClosedL ops listed) {j : Nat} (hj : j ∈ Region.ready .any ops listed) : ClosedL ops (listed.setIfInBounds j true) := by
 obtain ⟨h0, oj, hoj, hall⟩ := mem_ready.1 hj
 intro i o ho hl e he hb
 by_cases hij : j = i
 ·subst hij
  rw [hoj] at ho
  cases ho
  exact getD_set_true (hall e he hb)
 ·rw [getD_set_ne false hij] at hl
  exact getD_set_true (h i o ho hl e he hb)
def waitsB (ops : Array Oper) : Nat → Nat → Nat → Bool
 | 0, _, _ => false
 | n + 1, k, i => match ops[k]? with
  | some o => (o.after.toList.any fun e => Region.binds .any e && e.on == i) || o.after.toList.any fun e => Region.binds .any e && waitsB ops n e.on i
  | none => false
theorem waits_listed {listed : Array Bool} (hc : ClosedL ops listed) {i : Nat} : ∀ n k, listed.getD k false = true → waitsB ops n k i = true → listed.getD i false = true := by
 intro n
 induction n with
 | zero => intro k _ h; cases h
 | succ n ih =>
  intro k hk h
  unfold waitsB at h
  split at h
  ·rename_i o ho
   rcases (Bool.or_eq_true _ _).mp h with h | h
   ·obtain ⟨e, he, hb⟩ := List.any_eq_true.1 h
    simp only [Bool.and_eq_true, beq_iff_eq] at hb
    rw [← hb.2]
    exact hc k o ho hk e (by simpa using he) hb.1
   ·obtain ⟨e, he, hb⟩ := List.any_eq_true.1 h
    simp only [Bool.and_eq_true] at hb
    exact ih _ (hc k o ho hk e (by simpa using he) hb.1) hb.2
  ·cases h
theorem waits_ready {listed : Array Bool} (hc : ClosedL ops listed) {i n : Nat} (hk : k ∈ Region.ready .any ops listed) (h : waitsB ops n k i = true) : listed.getD i false = true := by
 obtain ⟨_, o, ho, hall⟩ := mem_ready.1 hk
 cases n with
 | zero => cases h
 | succ n =>
  unfold waitsB at h
  rw [ho] at h
  rcases (Bool.or_eq_true _ _).mp h with h | h
  ·obtain ⟨e, he, hb⟩ := List.any_eq_true.1 h
   simp only [Bool.and_eq_true, beq_iff_eq] at hb
   rw [← hb.2]
   exact hall e (by simpa using he) hb.1
  ·obtain ⟨e, he, hb⟩ := List.any_eq_true.1 h
   simp only [Bool.and_eq_true] at hb
   exact waits_listed hc _ _ (hall e (by simpa using he) hb.1) hb.2
theorem unlisted {listed : Array Bool} {i : Nat} (h : i ∈ Region.ready .any ops listed) : listed.getD i false = false := by
 have h0 := (mem_ready.1 h).1
 rcases Nat.lt_or_ge i listed.size with h' | h'
 ·simp [h'] at h0 ⊢; exact h0
 ·simp [Array.getElem?_eq_none h']
theorem wpAnyL_first {i n : Nat} {oi : Oper} {v : Value} (hi : ops[i]? = some oi) (hsel : ∀ (j : Nat) (o : Oper) cs b, ops[j]? = some o → o.op ≠ .select cs b)
  (hQ : ∀ c a w, Q (.panic c) (a.put oi.dst v) w → Q (.panic c) a w) (hwait : waitsB ops n k i = true) :
  ∀ (fuel : Nat) (listed : Array Bool) (a : Act) (w : World),
   (∀ j oj, ops[j]? = some oj → j ≠ i → listed.getD j true = false → (∀ e ∈ oj.after, Region.binds .any e = true → e.on ≠ i) → oi.apart ops oj = true) →
   i ∈ Region.ready .any ops listed → YieldsIf P ops S oi v a → ClosedL ops listed → listed.getD k false = false → S w →
   wpAnyL P ops Q S k fuel (listed.setIfInBounds i true) (a.put oi.dst v) w → wpAnyL P ops Q S k (fuel + 1) listed a w := by
 intro fuel
 induction fuel with
 | zero =>
  intro listed a w _ hr hy hc hk hS H
  refine ⟨fun h => (by rw [h] at hr; cases hr), fun j hj => ?_⟩
  by_cases hji : j = i
  ·subst hji; exact hy.wpOp hi hS ⟨.inr hS, H⟩
  ·have := ready_mono hj hji
   rw [H.1] at this
   cases this
 | succ fuel ih =>
  intro listed a w hfree hr hy hc hk hS H
  refine ⟨fun h => (by rw [h] at hr; cases hr), fun j hj => ?_⟩
  by_cases hji : j = i
  ·subst hji; exact hy.wpOp hi hS ⟨.inr hS, H⟩
  ·have hjk : j ≠ k := by
    rintro rfl
    have h1 := waits_ready hc hj hwait
    rw [unlisted hr] at h1
    cases h1
   have hik : i ≠ k := by
    rintro rfl
    have h1 := waits_ready hc hr hwait
    rw [unlisted hr] at h1
    cases h1
   have h1 := H.2 j (ready_mono hj hji)
   obtain ⟨hjun, oj, hoj, hall⟩ := mem_ready.1 hj
   have hnot : ∀ e ∈ oj.after, Region.binds .any e = true → e.on ≠ i := fun e he hb heq => by
    have h1 := hall e he hb
    rw [heq, unlisted hr] at h1
    cases h1
   have h2 := wpOp_putIf hoj (hfree j oj hoj hji hjun hnot) (fun cs b => hsel i oi cs b hi) (fun cs b => hsel j oj cs b hoj) hQ hy h1
   have hfree' : ∀ k ok, ops[k]? = some ok → k ≠ i → (listed.setIfInBounds j true).getD k true = false →
     (∀ e ∈ ok.after, Region.binds .any e = true → e.on ≠ i) → oi.apart ops ok = true := fun k ok hk hki hun hno => by
    refine hfree k ok hk hki ?_ hno
    by_cases hjk : j = k
    ·subst hjk; exact hjun
    ·rw [getD_set_ne true hjk] at hun; exact hun
   refine wpOp_mono (fun a' w' h3 => ?_) h2
   have hS' : S w' := by
    rcases h3.2.1 with q | q
    ·rw [getD_set_ne false hjk, getD_set_ne false hik, hk] at q
     cases q
    ·exact q
   refine ⟨.inr hS', ih (listed.setIfInBounds j true) a' w' hfree' (ready_mono hr (Ne.symm hji)) h3.1 (hc.set hj) (by rw [getD_set_ne false hjk]; exact hk) hS' ?_⟩
   rw [Array.setIfInBounds_comm _ _ hji]
   exact h3.2.2
theorem wpAnyL_pure {i : Nat} {oi : Oper} {v : Value} (hi : ops[i]? = some oi) (hsel : ∀ (j : Nat) (o : Oper) cs b, ops[j]? = some o → o.op ≠ .select cs b)
  (hQ : ∀ c a w, Q (.panic c) (a.put oi.dst v) w → Q (.panic c) a w) (hik : i ≠ k) :
  ∀ (fuel : Nat) (listed : Array Bool) (a : Act) (w : World),
   (∀ j oj, ops[j]? = some oj → j ≠ i → listed.getD j true = false → (∀ e ∈ oj.after, Region.binds .any e = true → e.on ≠ i) → oi.apart ops oj = true) →
   i ∈ Region.ready .any ops listed → YieldsIf P ops (fun _ => True) oi v a → (listed.getD k false = true ∨ S w) →
   wpAnyL P ops Q S k fuel (listed.setIfInBounds i true) (a.put oi.dst v) w → wpAnyL P ops Q S k (fuel + 1) listed a w := by
 intro fuel
 induction fuel with
 | zero =>
  intro listed a w _ hr hy hS H
  refine ⟨fun h => (by rw [h] at hr; cases hr), fun j hj => ?_⟩
  by_cases hji : j = i
  ·subst hji; exact hy.wpOp hi trivial ⟨by rw [getD_set_ne false hik]; exact hS, H⟩
  ·have := ready_mono hj hji
   rw [H.1] at this
   cases this
 | succ fuel ih =>
  intro listed a w hfree hr hy hS H
  refine ⟨fun h => (by rw [h] at hr; cases hr), fun j hj => ?_⟩
  by_cases hji : j = i
  ·subst hji; exact hy.wpOp hi trivial ⟨by rw [getD_set_ne false hik]; exact hS, H⟩
  ·have h1 := H.2 j (ready_mono hj hji)
   obtain ⟨hjun, oj, hoj, hall⟩ := mem_ready.1 hj
   have hnot : ∀ e ∈ oj.after, Region.binds .any e = true → e.on ≠ i := fun e he hb heq => by
    have h1 := hall e he hb
    rw [heq, unlisted hr] at h1
    cases h1
   have h2 := wpOp_putIf hoj (hfree j oj hoj hji hjun hnot) (fun cs b => hsel i oi cs b hi) (fun cs b => hsel j oj cs b hoj) hQ hy h1
   have hfree' : ∀ k ok, ops[k]? = some ok → k ≠ i → (listed.setIfInBounds j true).getD k true = false →
     (∀ e ∈ ok.after, Region.binds .any e = true → e.on ≠ i) → oi.apart ops ok = true := fun k ok hk hki hun hno => by
    refine hfree k ok hk hki ?_ hno
    by_cases hjk : j = k
    ·subst hjk; exact hjun
    ·rw [getD_set_ne true hjk] at hun; exact hun
   refine wpOp_mono (fun a' w' h3 => ?_) h2
   have hS' : (listed.setIfInBounds j true).getD k false = true ∨ S w' := by
    rcases h3.2.1 with q | q
    ·rw [Array.setIfInBounds_comm _ _ (Ne.symm hji), getD_set_ne false hik] at q
     exact .inl q
    ·exact .inr q
   refine ⟨hS', ih (listed.setIfInBounds j true) a' w' hfree' (ready_mono hr (Ne.symm hji)) h3.1 hS' ?_⟩
   rw [Array.setIfInBounds_comm _ _ hji]
   exact h3.2.2
def wpChainL (P : Program) (ops : Array Oper) (Q : Exit → Act → World → Prop) (S : World → Prop) : List (Nat × Nat) → Act → World → Prop
 | [], a, w => Q .normal a w
 | (0, i) :: r, a, w => match ops[i]? with
  | some o => ∃ v, YieldsIf P ops S o v a ∧ wpChainL P ops Q S r (a.put o.dst v) w
  | none => False
 | (1, i) :: r, a, w => match ops[i]? with
  | some o => ∀ K : Act → World → Prop, (∀ a w, S w → wpChainL P ops Q S r a w → K a w) → wpList P ops (Exit.then K Q) [o] a w
  | none => False
 | (2, i) :: r, a, w => match ops[i]? with
  | some o => ∃ v, YieldsIf P ops (fun _ => True) o v a ∧ wpChainL P ops Q S r (a.put o.dst v) w
  | none => False
 | (_, i) :: r, a, w => match ops[i]? with
  | some o => ∀ K : Act → World → Prop, (∀ a w, wpChainL P ops Q S r a w → K a w) → wpList P ops (Exit.then K Q) [o] a w
  | none => False
def chainOkL (ops : Array Oper) (k : Nat) : List (Nat × Nat) → Array Bool → Bool
 | [], listed => (Region.ready .any ops listed).isEmpty
 | (0, i) :: r, listed => Region.free .any ops listed i && (Region.ready .any ops listed).contains i && waitsB ops ops.size k i && (listed.getD k false == false) && chainOkL ops k r (listed.setIfInBounds i true)
 | (1, i) :: r, listed => (Region.ready .any ops listed == [i]) && chainOkL ops k r (listed.setIfInBounds i true)
 | (2, i) :: r, listed => Region.free .any ops listed i && (Region.ready .any ops listed).contains i && (i != k) && chainOkL ops k r (listed.setIfInBounds i true)
 | (_, i) :: r, listed => (Region.ready .any ops listed == [i]) && ((listed.setIfInBounds i true).getD k false) && chainOkL ops k r (listed.setIfInBounds i true)
theorem any_of_chainL (hs : Region.noSelect ops = true) (hQ : ∀ c (d : Tmp) v a w, Q (.panic c) (Act.put a (some d) v) w → Q (.panic c) a w) :
  ∀ (l : List (Nat × Nat)) (listed : Array Bool) (a : Act) (w : World), chainOkL ops k l listed = true → ClosedL ops listed → (listed.getD k false = true ∨ S w) → wpChainL P ops Q S l a w → wpAnyL P ops Q S k l.length listed a w := by
 intro l
 induction l with
 | nil =>
  intro listed a w hok _ _ h
  exact ⟨by simpa [chainOkL] using hok, h⟩
 | cons x r ih =>
  obtain ⟨b, i⟩ := x
  intro listed a w hok hc hS h
  have hput : ∀ (o : Oper) (v : Value) c a w, Q (.panic c) (Act.put a o.dst v) w → Q (.panic c) a w := by
   intro o v c a w hh
   cases hd : o.dst with
   | none => rw [hd] at hh; exact hh
   | some d => rw [hd] at hh; exact hQ c d v a w hh
  have alone : ∀ {T : World → Prop}, Region.ready .any ops listed = [i] → (∀ w', T w' → ((listed.setIfInBounds i true).getD k false = true ∨ S w')) → chainOkL ops k r (listed.setIfInBounds i true) = true →
    (match ops[i]? with
     | some o => ∀ K : Act → World → Prop, (∀ a w, T w → wpChainL P ops Q S r a w → K a w) → wpList P ops (Exit.then K Q) [o] a w
     | none => False) → wpAnyL P ops Q S k (r.length + 1) listed a w := by
   intro T hr hT hok h
   refine ⟨fun h0 => (by rw [hr] at h0; cases h0), fun j hj => ?_⟩
   have hj' := hj
   rw [hr] at hj
   obtain rfl : j = i := by simpa using hj
   obtain ⟨_, o, ho, _⟩ := mem_ready.1 hj'
   rw [ho] at h
   have h := h (fun a' w' => ((listed.setIfInBounds j true).getD k false = true ∨ S w') ∧ wpAnyL P ops Q S k r.length (listed.setIfInBounds j true) a' w') (fun a' w' hS' h' => ⟨hT w' hS', ih _ a' w' hok (hc.set hj') (hT w' hS') h'⟩)
   unfold wpOp
   simp only [ho]
   unfold wpList at h
   split at h
   ·rename_i hw
    rw [if_pos hw]
    rcases h with h | ⟨h1, h2⟩
    ·exact .inl (upon_list (fun a' w' h' => h') _ h)
    ·exact .inr ⟨h1, h2⟩
   ·rename_i hw
    rw [if_neg hw]
    exact h
  match b with
  | 0 =>
   simp only [chainOkL, Bool.and_eq_true, beq_iff_eq] at hok
   obtain ⟨⟨⟨⟨hf, hr⟩, hwt⟩, hk⟩, hok⟩ := hok
   have hmem : i ∈ Region.ready .any ops listed := by simpa using hr
   obtain ⟨_, o, ho, _⟩ := mem_ready.1 hmem
   simp only [wpChainL, ho] at h
   obtain ⟨v, hy, h⟩ := h
   have hSw : S w := by
    rcases hS with q | q
    ·rw [hk] at q; cases q
    ·exact q
   exact wpAnyL_first ho (Region.noSelect_spec hs) (hput o v) hwt _ listed a w (Region.free_spec ho hf) hmem hy hc hk hSw (ih _ _ _ hok (hc.set hmem) (.inr hSw) h)
  | 1 =>
   simp only [chainOkL, Bool.and_eq_true, beq_iff_eq] at hok
   exact alone (T := S) hok.1 (fun w' q => .inr q) hok.2 h
  | 2 =>
   simp only [chainOkL, Bool.and_eq_true, bne_iff_ne, ne_eq] at hok
   obtain ⟨⟨⟨hf, hr⟩, hik⟩, hok⟩ := hok
   have hmem : i ∈ Region.ready .any ops listed := by simpa using hr
   obtain ⟨_, o, ho, _⟩ := mem_ready.1 hmem
   simp only [wpChainL, ho] at h
   obtain ⟨v, hy, h⟩ := h
   exact wpAnyL_pure ho (Region.noSelect_spec hs) (hput o v) hik _ listed a w (Region.free_spec ho hf) hmem hy hS (ih _ _ _ hok (hc.set hmem) (by rw [getD_set_ne false hik]; exact hS) h)
  | b + 3 =>
   simp only [chainOkL, Bool.and_eq_true, beq_iff_eq] at hok
   refine alone (T := fun _ => True) hok.1.1 (fun w' _ => .inl hok.1.2) hok.2 ?_
   obtain ⟨_, o, ho, _⟩ := mem_ready.1 (show i ∈ Region.ready .any ops listed by rw [hok.1.1]; simp)
   simp only [wpChainL, ho] at h ⊢
   exact fun K hK => h K fun a' w' h' => hK a' w' trivial h'
theorem wp_region_chainL {id : Nat} {a : Act} {w : World} (S : World → Prop) (k : Nat) (l : List (Nat × Nat)) (hm : P.follows .mixedOrders = true) (hs : Region.noSelect ops = true)
  (hok : (chainOkL ops k l (Array.replicate ops.size false) && (l.length == ops.size)) = true) (hQ : ∀ c (d : Tmp) v a w, Q (.panic c) (Act.put a (some d) v) w → Q (.panic c) a w)
  (hS : S w.drew) (h : wpChainL P ops Q S l a w.drew) : (Code.region id ops true).wp P Q a w := by
 simp only [Bool.and_eq_true, beq_iff_eq] at hok
 refine wp_region_any hm (wpAny_of_L (S := S) (k := k) _ _ _ _ ?_)
 rw [← hok.2]
 refine any_of_chainL hs hQ l _ a _ (by rw [hok.2]; exact hok.1) ?_ (.inr hS) h
 intro j o ho hl
 simp only [Array.getD_eq_getD_getElem?, Array.getElem?_replicate] at hl
 split at hl <;> simp at hl
theorem chainL_alone {i : Nat} {r : List (Nat × Nat)} {o : Oper} {a : Act} {w : World} (ho : ops[i]? = some o)
  (h : ∀ K : Act → World → Prop, Hid (∀ a w, S w → wpChainL P ops Q S r a w → K a w) → wpList P ops (Exit.then K Q) [o] a w) : wpChainL P ops Q S ((1, i) :: r) a w := by
 simp only [wpChainL, ho]
 exact fun K hK => h K hK
theorem chainL_late {i : Nat} {r : List (Nat × Nat)} {o : Oper} {a : Act} {w : World} (ho : ops[i]? = some o)
  (h : ∀ K : Act → World → Prop, Hid (∀ a w, wpChainL P ops Q S r a w → K a w) → wpList P ops (Exit.then K Q) [o] a w) : wpChainL P ops Q S ((3, i) :: r) a w := by
 simp only [wpChainL, ho]
 exact fun K hK => h K hK
theorem chainL_nil {a : Act} {w : World} (h : Q .normal a w) : wpChainL P ops Q S [] a w := h
theorem chainL_take {i : Nat} {r : List (Nat × Nat)} {o : Oper} {v : Value} {a : Act} {w : World} (ho : ops[i]? = some o) (hw : Region.wanted o (yielded ops a.tmps) = true)
  (hy : ∀ w, S w → (execOp a.eval o).run P w = .ok (.value v) w) (h : wpChainL P ops Q S r (a.put o.dst v) w) : wpChainL P ops Q S ((0, i) :: r) a w := by
 simp only [wpChainL, ho]
 exact ⟨v, Or.inl ⟨hw, hy⟩, h⟩
theorem chainL_pure {i : Nat} {r : List (Nat × Nat)} {o : Oper} {v : Value} {a : Act} {w : World} (ho : ops[i]? = some o) (hw : Region.wanted o (yielded ops a.tmps) = true)
  (hy : ∀ w, (execOp a.eval o).run P w = .ok (.value v) w) (h : wpChainL P ops Q S r (a.put o.dst v) w) : wpChainL P ops Q S ((2, i) :: r) a w := by
 simp only [wpChainL, ho]
 exact ⟨v, Or.inl ⟨hw, fun w _ => hy w⟩, h⟩
end
section
variable {P : Program} {ops : Array Oper} {Q : Exit → Act → World → Prop} {S : World → Prop}
theorem rgL {id : Nat} {a : Act} {w : World} (S : World → Prop) (k : Nat) (l : List (Nat × Nat)) (hS : S w.drew) (h : wpChainL P ops Q S l a w.drew) (hm : P.follows .mixedOrders = true := by kernel_rfl) (hs : Region.noSelect ops = true := by kernel_rfl)
  (hok : (chainOkL ops k l (Array.replicate ops.size false) && (l.length == ops.size)) = true := by kernel_rfl) (hQ : ∀ c (d : Tmp) v a w, Q (.panic c) (Act.put a (some d) v) w → Q (.panic c) a w := by exact fun _ _ _ _ _ h => h) : (Code.region id ops true).wp P Q a w := wp_region_chainL S k l hm hs hok hQ hS h
theorem alL {i : Nat} {r : List (Nat × Nat)} {o : Oper} {a : Act} {w : World}
  (h : ∀ K : Act → World → Prop, Hid (∀ a w, S w → wpChainL P ops Q S r a w → K a w) → wpList P ops (Exit.then K Q) [o] a w) (ho : ops[i]? = some o := by simp only [List.getElem?_toArray, List.getElem?_cons_zero, List.getElem?_cons_succ] <;> rfl) : wpChainL P ops Q S ((1, i) :: r) a w := chainL_alone ho h
theorem laL {i : Nat} {r : List (Nat × Nat)} {o : Oper} {a : Act} {w : World}
  (h : ∀ K : Act → World → Prop, Hid (∀ a w, wpChainL P ops Q S r a w → K a w) → wpList P ops (Exit.then K Q) [o] a w) (ho : ops[i]? = some o := by simp only [List.getElem?_toArray, List.getElem?_cons_zero, List.getElem?_cons_succ] <;> rfl) : wpChainL P ops Q S ((3, i) :: r) a w := chainL_late ho h
theorem stL {i : Nat} {r : List (Nat × Nat)} {o : Oper} {v : Value} {a a2 : Act} {w : World} (ho : ops[i]? = some o := by simp only [List.getElem?_toArray, List.getElem?_cons_zero, List.getElem?_cons_succ] <;> rfl) (hw : Region.wanted o (yielded ops a.tmps) = true := by rfl) (hy : ∀ w, S w → (execOp a.eval o).run P w = .ok (.value v) w := by intro w hS; go_simp <;> with_reducible rfl)
  (ha : a.put o.dst v = a2 := by simp only [Act.put, List.setIfInBounds_toArray, List.set_cons_zero, List.set_cons_succ] <;> rfl) (h : wpChainL P ops Q S r a2 w) : wpChainL P ops Q S ((0, i) :: r) a w := chainL_take ho hw hy (ha ▸ h)
theorem puL {i : Nat} {r : List (Nat × Nat)} {o : Oper} {v : Value} {a a2 : Act} {w : World} (ho : ops[i]? = some o := by simp only [List.getElem?_toArray, List.getElem?_cons_zero, List.getElem?_cons_succ] <;> rfl) (hw : Region.wanted o (yielded ops a.tmps) = true := by rfl) (hy : ∀ w, (execOp a.eval o).run P w = .ok (.value v) w := by intro w; go_simp <;> with_reducible rfl)
  (ha : a.put o.dst v = a2 := by simp only [Act.put, List.setIfInBounds_toArray, List.set_cons_zero, List.set_cons_succ] <;> rfl) (h : wpChainL P ops Q S r a2 w) : wpChainL P ops Q S ((2, i) :: r) a w := chainL_pure ho hw hy (ha ▸ h)
end
inductive OTree where
 | done
 | take (i : Nat) (t : OTree)
 | alone (i : Nat) (t : OTree)
 | two (i : Nat) (t : OTree) (j : Nat) (u : OTree)
def stepT (P : Program) (ops : Array Oper) (Q : Exit → Act → World → Prop) (S : World → Prop) (i : Nat) (N : Act → World → Prop) (a : Act) (w : World) : Prop := match ops[i]? with
 | some o => ∀ K : Act → World → Prop, (∀ a w, S w → N a w → K a w) → wpList P ops (Exit.then K Q) [o] a w
 | none => False
def wpTree (P : Program) (ops : Array Oper) (Q : Exit → Act → World → Prop) (S : World → Prop) : OTree → Act → World → Prop
 | .done, a, w => Q .normal a w
 | .take i t, a, w => match ops[i]? with
  | some o => ∃ v, YieldsIf P ops S o v a ∧ wpTree P ops Q S t (a.put o.dst v) w
  | none => False
 | .alone i t, a, w => stepT P ops Q S i (wpTree P ops Q S t) a w
 | .two i t j u, a, w => stepT P ops Q S i (wpTree P ops Q S t) a w ∧ stepT P ops Q S j (wpTree P ops Q S u) a w
def okT (ops : Array Oper) : OTree → Nat → Array Bool → Bool
 | .done, n, listed => (n == 0) && (Region.ready .any ops listed).isEmpty
 | .take i t, n + 1, listed => Region.free .any ops listed i && (Region.ready .any ops listed).contains i && okT ops t n (listed.setIfInBounds i true)
 | .alone i t, n + 1, listed => (Region.ready .any ops listed == [i]) && okT ops t n (listed.setIfInBounds i true)
 | .two i t j u, n + 1, listed => (Region.ready .any ops listed == [i, j]) && (okT ops t n (listed.setIfInBounds i true) && okT ops u n (listed.setIfInBounds j true))
 | _, _, _ => false
section
variable {P : Program} {ops : Array Oper} {Q : Exit → Act → World → Prop} {S : World → Prop}
theorem op_of_step {i n : Nat} {N : Act → World → Prop} {listed : Array Bool} {a : Act} {w : World} (hmem : i ∈ Region.ready .any ops listed)
  (hN : ∀ a w, S w → N a w → wpAnyH P .any ops Q S n (listed.setIfInBounds i true) a w) (h : stepT P ops Q S i N a w) :
  wpOp P ops Q i (fun a' w' => S w' ∧ wpAnyH P .any ops Q S n (listed.setIfInBounds i true) a' w') a w := by
 obtain ⟨_, o, ho, _⟩ := mem_ready.1 hmem
 simp only [stepT, ho] at h
 have h := h (fun a' w' => S w' ∧ wpAnyH P .any ops Q S n (listed.setIfInBounds i true) a' w') (fun a' w' hS' h' => ⟨hS', hN a' w' hS' h'⟩)
 unfold wpOp
 simp only [ho]
 unfold wpList at h
 split at h
 ·rename_i hw
  rw [if_pos hw]
  rcases h with h | ⟨h1, h2⟩
  ·exact .inl (upon_list (fun a' w' h' => h') _ h)
  ·exact .inr ⟨h1, h2⟩
 ·rename_i hw
  rw [if_neg hw]
  exact h
theorem any_of_tree (hs : Region.noSelect ops = true) (hQ : ∀ c (d : Tmp) v a w, Q (.panic c) (Act.put a (some d) v) w → Q (.panic c) a w) :
  ∀ (t : OTree) (n : Nat) (listed : Array Bool) (a : Act) (w : World), okT ops t n listed = true → S w → wpTree P ops Q S t a w → wpAnyH P .any ops Q S n listed a w := by
 intro t
 induction t with
 | done =>
  intro n listed a w hok _ h
  simp only [okT, Bool.and_eq_true, beq_iff_eq] at hok
  obtain ⟨rfl, hok⟩ := hok
  exact wpAnyH_done (by simpa using hok) h 0
 | take i t ih =>
  intro n listed a w hok hS h
  cases n with
  | zero => simp [okT] at hok
  | succ n =>
   simp only [okT, Bool.and_eq_true] at hok
   obtain ⟨⟨hf, hr⟩, hok⟩ := hok
   have hmem : i ∈ Region.ready .any ops listed := by simpa using hr
   obtain ⟨_, o, ho, _⟩ := mem_ready.1 hmem
   simp only [wpTree, ho] at h
   obtain ⟨v, hy, h⟩ := h
   refine wpAnyH_take ho hs hf hr (fun c a w hh => ?_) hy hS (ih _ _ _ _ hok hS h)
   cases hd : o.dst with
   | none => rw [hd] at hh; exact hh
   | some d => rw [hd] at hh; exact hQ c d v a w hh
 | alone i t ih =>
  intro n listed a w hok hS h
  cases n with
  | zero => simp [okT] at hok
  | succ n =>
   simp only [okT, Bool.and_eq_true, beq_iff_eq] at hok
   obtain ⟨hr, hok⟩ := hok
   refine wpAnyH_all hr (by simp) fun j hj => ?_
   obtain rfl : j = i := by simpa using hj
   exact op_of_step (by rw [hr]; simp) (fun a w hS' h' => ih _ _ a w hok hS' h') h
 | two i t j u ih1 ih2 =>
  intro n listed a w hok hS h
  cases n with
  | zero => simp [okT] at hok
  | succ n =>
   simp only [okT, Bool.and_eq_true, beq_iff_eq] at hok
   obtain ⟨hr, hok1, hok2⟩ := hok
   refine wpAnyH_all hr (by simp) fun x hx => ?_
   rcases List.mem_cons.1 hx with rfl | hx
   ·exact op_of_step (by rw [hr]; simp) (fun a w hS' h' => ih1 _ _ a w hok1 hS' h') h.1
   ·obtain rfl : x = j := by simpa using hx
    exact op_of_step (by rw [hr]; simp) (fun a w hS' h' => ih2 _ _ a w hok2 hS' h') h.2
theorem wp_region_tree {id : Nat} {a : Act} {w : World} (S : World → Prop) (t : OTree) (hm : P.follows .mixedOrders = true) (hs : Region.noSelect ops = true)
  (hok : okT ops t ops.size (Array.replicate ops.size false) = true) (hQ : ∀ c (d : Tmp) v a w, Q (.panic c) (Act.put a (some d) v) w → Q (.panic c) a w)
  (hS : S w.drew) (h : wpTree P ops Q S t a w.drew) : (Code.region id ops true).wp P Q a w :=
 wp_region_held (S := S) hm (any_of_tree hs hQ t _ _ a _ hok hS h)
theorem tree_done {a : Act} {w : World} (h : Q .normal a w) : wpTree P ops Q S .done a w := h
theorem tree_take {i : Nat} {t : OTree} {o : Oper} {v : Value} {a : Act} {w : World} (ho : ops[i]? = some o) (hw : Region.wanted o (yielded ops a.tmps) = true)
  (hy : ∀ w, S w → (execOp a.eval o).run P w = .ok (.value v) w) (h : wpTree P ops Q S t (a.put o.dst v) w) : wpTree P ops Q S (.take i t) a w := by
 simp only [wpTree, ho]
 exact ⟨v, Or.inl ⟨hw, hy⟩, h⟩
theorem step_of {i : Nat} {N : Act → World → Prop} {o : Oper} {a : Act} {w : World} (ho : ops[i]? = some o)
  (h : ∀ K : Act → World → Prop, Hid (∀ a w, S w → N a w → K a w) → wpList P ops (Exit.then K Q) [o] a w) : stepT P ops Q S i N a w := by
 simp only [stepT, ho]
 exact fun K hK => h K hK
theorem tree_alone {i : Nat} {t : OTree} {o : Oper} {a : Act} {w : World} (ho : ops[i]? = some o)
  (h : ∀ K : Act → World → Prop, Hid (∀ a w, S w → wpTree P ops Q S t a w → K a w) → wpList P ops (Exit.then K Q) [o] a w) : wpTree P ops Q S (.alone i t) a w := step_of ho h
theorem tree_two {i : Nat} {t : OTree} {j : Nat} {u : OTree} {o o' : Oper} {a : Act} {w : World} (ho : ops[i]? = some o) (ho' : ops[j]? = some o')
  (h : ∀ K : Act → World → Prop, Hid (∀ a w, S w → wpTree P ops Q S t a w → K a w) → wpList P ops (Exit.then K Q) [o] a w)
  (h' : ∀ K : Act → World → Prop, Hid (∀ a w, S w → wpTree P ops Q S u a w → K a w) → wpList P ops (Exit.then K Q) [o'] a w) : wpTree P ops Q S (.two i t j u) a w := ⟨step_of ho h, step_of ho' h'⟩
end
def Others (e : TypeId) (w w1 : World) : Prop := ∀ q t l, t ≠ e → Whole w q t l → Whole w1 q t l
theorem Others.of {e : TypeId} {k : IntKind} {B : Nat} {w wr w1 : World} {v : Value} {bs : List Int} (h : Own e k B w wr v bs) (hg : wr.grownBy w1 v.ownBlock) : Others e wr w1 := by
 intro q t l ht hw
 refine (hg.block q hw.lt ?_).trans hw
 intro hq
 rcases h.own.2 with ⟨rfl, _⟩ | ⟨g, cap, cur, rfl, _, hh, _⟩
 ·simp [Value.ownBlock] at hq
 ·obtain rfl : q = g := by simpa [Value.ownBlock] using hq
  unfold Whole at hw
  rw [hh] at hw
  simp only [Option.some.injEq, Obj.cells.injEq] at hw
  exact ht hw.2.1.symm
theorem wpList_catO {P : Program} {T e : TypeId} {k : IntKind} {bytes : Nat} (E : Elem P T e k bytes) {ops : Array Oper} {rest : List Oper} {o : Oper} {a : Act} {Q : Exit → Act → World → Prop} {B : Nat} {w wr : World} {v : Value} {bs ns : List Int} {A : Option Addr} {n c : Nat}
  (hgd : Region.wanted o (yielded ops a.tmps) = true) (s y : Operand) (ho : o.op = .call { callee := .builtin .append, args := #[s, y], argTypes := #[T, T] })
  (hs : a.eval s = v) (hy : a.eval y = .slice A n c) (hown : Own e k B w wr v bs) (hns : Ints k wr A ns) (hn : ns.length = n) (hc : A = none → c = 0) (hlen : bs.length + n ≤ 1000000) (hby : bytes ≤ 1000)
  (h : ∀ v' w1, Own e k B w w1 v' (bs ++ ns) → Others e wr w1 → wpList P ops Q rest (a.put o.dst v') w1) : wpList P ops Q (o :: rest) a wr := by
 subst hn
 obtain ⟨i0, hi, hz0, hz1, hz2⟩ := info_parts E.info
 have hb : (bs.length + ns.length) * bytes ≤ 1000000 * 1000 := Nat.mul_le_mul hlen hby
 refine wpList_want hgd fun K hK => ?_
 cases A with
 | none =>
  have hn : ns = [] := by
   rcases hns with h | ⟨_, _, h, _⟩
   ·exact h
   ·cases h
  subst hn
  obtain rfl : c = 0 := hc rfl
  have hrun := run_append_owned_none (P := P) (w := wr) B T o.type e i0 1 E.under hi v bs.length _ hown.own
  unfold Oper.wp
  simp [execOp, ho, resolve, invoke, builtin, hs, hy, hrun, Result.andThen]
  exact hK _ _ (h v wr (by simpa using hown) (fun _ _ _ _ h => h))
 | some ad =>
  refine wp_append_own _ s y T ho B e i0 (.int k 0) 1 bytes E.under hi hz0 hz1 hz2 rfl (by decide) v bs.length _ hs hown.own ad ns.length c (ns.map (Value.int k)) hy (by simp) ?_ (oneCells k ns)
   (by unfold maxLen; omega) (by omega) hown.le ?_
  ·intro j u hu
   have hj : j < ns.length := by have := (List.getElem?_eq_some_iff.1 hu).1; simpa using this
   obtain ⟨b, off, e1, hcell, _⟩ := hns.at hj
   cases e1
   have : (⟨b, off, none⟩ : Addr).add j = ⟨b, off + j, none⟩ := by unfold Addr.add; split <;> simp_all
   rw [this, hcell]
   simp [List.getElem?_eq_getElem hj] at hu ⊢
   exact hu
  ·intro v' w1 h1 hg _
   exact hK _ _ (h v' w1 (hown.grown h1 hg) (Others.of hown hg))
section
variable {P : Program} {ops : Array Oper} {Q : Exit → Act → World → Prop} {S : World → Prop}
theorem rgT {id : Nat} {a : Act} {w : World} (S : World → Prop) (t : OTree) (hS : S w.drew) (h : wpTree P ops Q S t a w.drew) (hm : P.follows .mixedOrders = true := by kernel_rfl) (hs : Region.noSelect ops = true := by kernel_rfl)
  (hok : okT ops t ops.size (Array.replicate ops.size false) = true := by kernel_rfl) (hQ : ∀ c (d : Tmp) v a w, Q (.panic c) (Act.put a (some d) v) w → Q (.panic c) a w := by exact fun _ _ _ _ _ h => h) : (Code.region id ops true).wp P Q a w := wp_region_tree S t hm hs hok hQ hS h
theorem alT {i : Nat} {t : OTree} {o : Oper} {a : Act} {w : World}
  (h : ∀ K : Act → World → Prop, Hid (∀ a w, S w → wpTree P ops Q S t a w → K a w) → wpList P ops (Exit.then K Q) [o] a w) (ho : ops[i]? = some o := by simp only [List.getElem?_toArray, List.getElem?_cons_zero, List.getElem?_cons_succ] <;> rfl) : wpTree P ops Q S (.alone i t) a w := tree_alone ho h
theorem stT {i : Nat} {t : OTree} {o : Oper} {v : Value} {a a2 : Act} {w : World} (ho : ops[i]? = some o := by simp only [List.getElem?_toArray, List.getElem?_cons_zero, List.getElem?_cons_succ] <;> rfl) (hw : Region.wanted o (yielded ops a.tmps) = true := by rfl) (hy : ∀ w, S w → (execOp a.eval o).run P w = .ok (.value v) w := by intro w hS; go_simp <;> with_reducible rfl)
  (ha : a.put o.dst v = a2 := by simp only [Act.put, List.setIfInBounds_toArray, List.set_cons_zero, List.set_cons_succ] <;> rfl) (h : wpTree P ops Q S t a2 w) : wpTree P ops Q S (.take i t) a w := tree_take ho hw hy (ha ▸ h)
end
end
def isSc (r : Int) : Bool := decide (0 ≤ r ∧ r ≤ 1114111 ∧ (r < 55296 ∨ 57343 < r))
def inB (r : Int) : List Int → Bool
 | a :: b :: l => (decide (a ≤ r) && decide (r ≤ b)) || inB r l
 | _ => false
def marks : List Int := [768, 879, 8203, 8207, 8400, 8447, 65024, 65039, 65056, 65071]
def wides : List Int := [4352, 4447, 11904, 12350, 12353, 42191, 44032, 55203, 63744, 64255, 65072, 65135, 65280, 65376, 65504, 65510, 127744, 128591, 129280, 129535, 131072, 262141]
def wOf (r : Int) : Int :=
 if r < 32 ∨ inB r [127, 159] = true ∨ isSc r = false then -1 else if inB r marks = true then 0 else if inB r wides = true then 2 else 1
theorem wOf_range (r : Int) : wOf r = -1 ∨ wOf r = 0 ∨ wOf r = 1 ∨ wOf r = 2 := by
 unfold wOf; split; simp; split; simp; split <;> simp
def pos (r : Int) : Int := if 0 < wOf r then wOf r else 0
structure Pn where
 f : Nat
 g : Nat
 b : Nat
deriving DecidableEq
def zeroP : Pn := ⟨0, 0, 0⟩
def rightN (p : Pn) : Bool := decide (p.f ≤ 31) && (decide (p.g ≤ 16) && decide (p.b ≤ 16))
structure Cel where
 r : Int
 m : Int
 n : Int
 w : Nat
 p : Pn
deriving DecidableEq
def zeroC : Cel := ⟨0, 0, 0, 0, zeroP⟩
def blankC (p : Pn) : Cel := ⟨32, 0, 0, 1, p⟩
def restC (c : Cel) : Cel := ⟨0, 0, 0, 0, c.p⟩
def bearsC (c : Cel) : Bool := decide (c.w = 1 ∨ c.w = 2)
def markC (c : Cel) (r : Int) : Cel × Bool :=
 if wOf r = 0 ∧ bearsC c = true then (if c.m = 0 then ({ c with m := r }, true) else if c.n = 0 then ({ c with n := r }, true) else (c, false)) else (c, false)
def marksC (m n : Int) : Bool := if m = 0 then decide (n = 0) else decide (wOf m = 0) && (decide (n = 0) || decide (wOf n = 0))
def rightC (c : Cel) : Bool :=
 rightN c.p && (if c.w = 0 then decide (c.r = 0 ∧ c.m = 0 ∧ c.n = 0) else if bearsC c = true then decide (wOf c.r = c.w) && marksC c.m c.n else false)
theorem wOf_zero : wOf 0 = -1 := by decide
theorem wOf_32 : wOf 32 = 1 := by decide +kernel
theorem right_pen {c : Cel} (h : rightC c = true) : rightN c.p = true := by
 unfold rightC at h; simp only [Bool.and_eq_true] at h; exact h.1
theorem right_rest {c : Cel} (h : rightC c = true) : rightC (restC c) = true := by
 have := right_pen h
 unfold rightC restC; simp [this]
theorem right_blank {p : Pn} (h : rightN p = true) : rightC (blankC p) = true := by
 unfold rightC blankC; simp [h, bearsC, wOf_32, marksC]
theorem mark_ne {r : Int} (h : wOf r = 0) : r ≠ 0 := by rintro rfl; rw [wOf_zero] at h; cases h
theorem right_mark {c : Cel} {r : Int} (h : rightC c = true) : rightC (markC c r).1 = true := by
 unfold markC
 by_cases h1 : wOf r = 0 ∧ bearsC c = true
 ·rw [if_pos h1]
  obtain ⟨h1, h2⟩ := h1
  have h0 : c.w ≠ 0 := by intro q; unfold bearsC at h2; simp [q] at h2
  unfold rightC at h
  simp only [Bool.and_eq_true, if_neg h0, if_pos h2] at h
  obtain ⟨hp, hw, hm⟩ := h
  have hn := mark_ne h1
  by_cases hm0 : c.m = 0
  ·rw [if_pos hm0]
   have hn0 : c.n = 0 := by unfold marksC at hm; simpa [hm0] using hm
   unfold rightC
   simp only [Bool.and_eq_true, if_neg h0]
   refine ⟨hp, ?_⟩
   refine (if_pos (show bearsC _ = true from h2)).trans ?_
   simp only [Bool.and_eq_true]
   refine ⟨hw, ?_⟩
   unfold marksC; simp [hn, h1, hn0]
  ·rw [if_neg hm0]
   by_cases hn0 : c.n = 0
   ·rw [if_pos hn0]
    unfold rightC
    simp only [Bool.and_eq_true, if_neg h0]
    refine ⟨hp, ?_⟩
    refine (if_pos (show bearsC _ = true from h2)).trans ?_
    simp only [Bool.and_eq_true]
    refine ⟨hw, ?_⟩
    unfold marksC at hm ⊢
    simp only [hm0, if_false, Bool.and_eq_true, decide_eq_true_iff] at hm ⊢
    exact ⟨hm.1, by simp [h1]⟩
   ·rw [if_neg hn0]
    unfold rightC
    simp only [Bool.and_eq_true, if_neg h0, if_pos h2]
    exact ⟨hp, hw, hm⟩
 ·rw [if_neg h1]; exact h
def cAt (l : List Cel) (i : Nat) : Cel := l.getD i zeroC
def wAt (l : List Cel) (i : Nat) : Nat := ((l[i]?).map (·.w)).getD 9
def tab (n : Nat) (f : Nat → Cel) : List Cel := (List.range n).map f
theorem tab_len (n : Nat) (f : Nat → Cel) : (tab n f).length = n := by simp [tab]
theorem tab_get (n : Nat) (f : Nat → Cel) (i : Nat) (h : i < n) : (tab n f)[i]? = some (f i) := by simp [tab, h]
theorem tab_no (n : Nat) (f : Nat → Cel) (i : Nat) (h : n ≤ i) : (tab n f)[i]? = none := by simp [tab, h]
theorem tab_cAt (n : Nat) (f : Nat → Cel) (i : Nat) (h : i < n) : cAt (tab n f) i = f i := by
 unfold cAt; rw [List.getD_eq_getElem?_getD, tab_get n f i h]; rfl
theorem tab_snoc (n : Nat) (f : Nat → Cel) : tab (n + 1) f = tab n f ++ [f n] := by simp [tab, List.range_succ]
theorem get_cAt (l : List Cel) (i : Nat) (h : i < l.length) : l[i]? = some (cAt l i) := by
 unfold cAt; rw [List.getD_eq_getElem?_getD, List.getElem?_eq_getElem h]; rfl
theorem tab_self (l : List Cel) : tab l.length (cAt l) = l := by
 apply List.ext_getElem?
 intro i
 by_cases h : i < l.length
 ·rw [tab_get _ _ _ h, get_cAt l i h]
 ·rw [tab_no _ _ _ (by omega), List.getElem?_eq_none (by omega)]
theorem tab_eq {n : Nat} {f g : Nat → Cel} (h : ∀ i, i < n → f i = g i) : tab n f = tab n g := by
 apply List.ext_getElem?
 intro i
 by_cases hi : i < n
 ·rw [tab_get _ _ _ hi, tab_get _ _ _ hi, h i hi]
 ·rw [tab_no _ _ _ (by omega), tab_no _ _ _ (by omega)]
theorem tab_is {l : List Cel} {n : Nat} {f : Nat → Cel} (hn : l.length = n) (h : ∀ i, i < n → cAt l i = f i) : l = tab n f := by
 subst hn; rw [← tab_eq h, tab_self]
theorem wAt_in (l : List Cel) (i : Nat) (h : i < l.length) : wAt l i = (cAt l i).w := by unfold wAt; rw [get_cAt l i h]; rfl
theorem wAt_out (l : List Cel) (i : Nat) (h : l.length ≤ i) : wAt l i = 9 := by unfold wAt; rw [List.getElem?_eq_none h]; rfl
theorem tab_set (n : Nat) (f : Nat → Cel) (k : Nat) (c : Cel) : (tab n f).set k c = tab n (fun i => if i = k then c else f i) := by
 apply List.ext_getElem?
 intro i
 rw [List.getElem?_set, tab_len]
 by_cases hi : i < n
 ·rw [tab_get _ _ _ hi, tab_get _ _ _ hi]
  by_cases hk : k = i
  ·subst hk; simp [hi]
  ·simp [hk, Ne.symm hk]
 ·rw [tab_no _ _ _ (by omega), tab_no _ _ _ (by omega)]
  by_cases hk : k = i
  ·subst hk; simp [hi]
  ·simp [hk]
theorem set_tab (l : List Cel) (k : Nat) (c : Cel) : l.set k c = tab l.length (fun i => if i = k then c else cAt l i) := by
 conv => lhs; rw [← tab_self l]
 exact tab_set _ _ _ _
def aloneC (l : List Cel) (i : Nat) : Bool :=
 if wAt l i = 2 then decide (wAt l (i + 1) ≠ 0) else if wAt l i = 0 then decide (i = 0 ∨ wAt l (i - 1) ≠ 2) else false
def mendAt (l : List Cel) (i : Nat) : Cel := if aloneC l i = true then blankC (cAt l i).p else cAt l i
def mendC (l : List Cel) : List Cel := tab l.length (mendAt l)
theorem mend_len (l : List Cel) : (mendC l).length = l.length := tab_len _ _
def lenN (n : Int) : Nat := (min (max n 0) 512).toNat
theorem lenN_le (n : Int) : lenN n ≤ 512 := by unfold lenN; omega
def newC (n : Int) : List Cel := tab (lenN n) (fun _ => blankC zeroP)
def putTab (l : List Cel) (k : Nat) (c : Cel) : List Cel := tab l.length (fun i => if i = k then c else if i = k + 1 ∧ c.w = 2 then restC c else cAt l i)
def putOk (l : List Cel) (at_ : Int) (c : Cel) : Bool := decide (rightC c = true ∧ c.w ≠ 0 ∧ 0 ≤ at_ ∧ at_ + (c.w : Int) ≤ (l.length : Int))
def putC (l : List Cel) (at_ : Int) (c : Cel) : List Cel := if putOk l at_ c = true then mendC (putTab l at_.toNat c) else l
def eraseTab (l : List Cel) (from_ to : Int) (p : Pn) : List Cel := tab l.length (fun i => if from_ ≤ (i : Int) ∧ (i : Int) < to then blankC p else cAt l i)
def eraseC (l : List Cel) (from_ to : Int) (p : Pn) : List Cel := mendC (eraseTab l from_ to p)
def fitTab (l : List Cel) (n : Int) : List Cel := tab (lenN n) (fun i => if i < l.length then cAt l i else blankC zeroP)
def fitC (l : List Cel) (n : Int) : List Cel := mendC (fitTab l n)
def mkAt (l : List Cel) (k : Nat) : Nat := if wAt l k = 0 ∧ 0 < k ∧ wAt l (k - 1) = 2 then k - 1 else k
def lmarkC (l : List Cel) (at_ r : Int) : List Cel × Bool :=
 if 0 ≤ at_ ∧ at_ < (l.length : Int) then (l.set (mkAt l at_.toNat) (markC (cAt l (mkAt l at_.toNat)) r).1, (markC (cAt l (mkAt l at_.toNat)) r).2) else (l, false)
def okAt (l : List Cel) (i : Nat) : Bool := rightC (cAt l i) && (!(aloneC l i) && (!(decide (wAt l i = 0)) || decide ((cAt l i).p = (cAt l (i - 1)).p)))
def okP (l : List Cel) (i : Nat) : Bool := rightC (cAt l i) && (!(aloneC l i) && (!(decide (wAt l i = 2)) || decide (cAt l (i + 1) = restC (cAt l i))))
def rightL (l : List Cel) : Bool := decide (∀ i, i < l.length → okAt l i = true)
def mixC (l : List Cel) (k : Nat) : List Cel := tab l.length (fun i => if i < k then mendAt l i else cAt l i)
theorem mix_len (l : List Cel) (k : Nat) : (mixC l k).length = l.length := tab_len _ _
theorem mix_0 (l : List Cel) : mixC l 0 = l := by
 unfold mixC
 conv => rhs; rw [← tab_self l]
 exact tab_eq fun i _ => by simp
theorem mix_all (l : List Cel) (k : Nat) (h : l.length ≤ k) : mixC l k = mendC l := tab_eq fun i hi => by rw [if_pos (by omega)]
theorem mix_at (l : List Cel) (k i : Nat) (hi : i < l.length) : cAt (mixC l k) i = if i < k then mendAt l i else cAt l i := tab_cAt _ _ _ hi
theorem mix_self (l : List Cel) (k : Nat) (h : k < l.length) : cAt (mixC l k) k = cAt l k := by rw [mix_at l k k h]; simp
theorem mendAt_no (l : List Cel) (k : Nat) (h : aloneC l k = false) : mendAt l k = cAt l k := by unfold mendAt; simp [h]
theorem mendAt_yes (l : List Cel) (k : Nat) (h : aloneC l k = true) : mendAt l k = blankC (cAt l k).p := by unfold mendAt; simp [h]
theorem mix_next (l : List Cel) (k : Nat) : mixC l (k + 1) = (mixC l k).set k (mendAt l k) := by
 unfold mixC
 rw [tab_set]
 refine tab_eq fun i hi => ?_
 by_cases h : i = k
 ·subst h; simp
 ·by_cases h2 : i < k
  ·simp [h, h2, show i < k + 1 by omega]
  ·simp [h, h2, show ¬ i < k + 1 by omega]
theorem mix_stay (l : List Cel) (k : Nat) (h : k < l.length) (ha : aloneC l k = false) : mixC l (k + 1) = mixC l k := by
 rw [mix_next, mendAt_no l k ha]
 unfold mixC
 rw [tab_set]
 refine tab_eq fun i hi => ?_
 by_cases h : i = k
 ·subst h; simp
 ·simp [h]
theorem mendAt_w (l : List Cel) (i : Nat) (hi : i < l.length) : (mendAt l i).w = 2 ↔ (wAt l i = 2 ∧ aloneC l i = false) := by
 unfold mendAt
 rw [wAt_in l i hi]
 cases h : aloneC l i <;> simp [blankC]
theorem mix_alone (l : List Cel) (k : Nat) (hk : k < l.length) : aloneC (mixC l k) k = aloneC l k := by
 have e0 : wAt (mixC l k) k = wAt l k := by
  rw [wAt_in _ _ (by rw [mix_len]; exact hk), wAt_in _ _ hk, mix_self l k hk]
 have e1 : wAt (mixC l k) (k + 1) = wAt l (k + 1) := by
  by_cases h : k + 1 < l.length
  ·rw [wAt_in _ _ (by rw [mix_len]; exact h), wAt_in _ _ h, mix_at l k _ h]; simp [show ¬ k + 1 < k by omega]
  ·rw [wAt_out _ _ (by rw [mix_len]; omega), wAt_out _ _ (by omega)]
 unfold aloneC
 rw [e0, e1]
 by_cases h2 : wAt l k = 2
 ·simp [h2]
 ·rw [if_neg h2, if_neg h2]
  by_cases h0 : wAt l k = 0
  ·rw [if_pos h0, if_pos h0]
   by_cases hz : k = 0
   ·simp [hz]
   ·have hp : k - 1 < l.length := by omega
    have e2 : wAt (mixC l k) (k - 1) = 2 ↔ wAt l (k - 1) = 2 := by
     rw [wAt_in _ _ (by rw [mix_len]; exact hp), mix_at l k _ hp, if_pos (by omega), mendAt_w l _ hp]
     constructor
     ·exact fun h => h.1
     ·intro h
      refine ⟨h, ?_⟩
      unfold aloneC
      rw [if_pos h, show k - 1 + 1 = k by omega, h0]
      simp
    simp [hz, e2]
  ·rw [if_neg h0, if_neg h0]
theorem mend_cAt (l : List Cel) (i : Nat) (hi : i < l.length) : cAt (mendC l) i = mendAt l i := tab_cAt _ _ _ hi
theorem okAt_iff (l : List Cel) (i : Nat) : okAt l i = true ↔ rightC (cAt l i) = true ∧ aloneC l i = false ∧ (wAt l i = 0 → (cAt l i).p = (cAt l (i - 1)).p) := by
 unfold okAt
 simp only [Bool.and_eq_true, Bool.or_eq_true, Bool.not_eq_true', decide_eq_true_iff, decide_eq_false_iff_not]
 constructor
 ·rintro ⟨h1, h2, h3⟩; exact ⟨h1, h2, fun h => by rcases h3 with q | q; exact absurd h q; exact q⟩
 ·rintro ⟨h1, h2, h3⟩; exact ⟨h1, h2, by by_cases h : wAt l i = 0; exact .inr (h3 h); exact .inl h⟩
theorem okP_iff (l : List Cel) (i : Nat) : okP l i = true ↔ rightC (cAt l i) = true ∧ aloneC l i = false ∧ (wAt l i = 2 → cAt l (i + 1) = restC (cAt l i)) := by
 unfold okP
 simp only [Bool.and_eq_true, Bool.or_eq_true, Bool.not_eq_true', decide_eq_true_iff, decide_eq_false_iff_not]
 constructor
 ·rintro ⟨h1, h2, h3⟩; exact ⟨h1, h2, fun h => by rcases h3 with q | q; exact absurd h q; exact q⟩
 ·rintro ⟨h1, h2, h3⟩; exact ⟨h1, h2, by by_cases h : wAt l i = 2; exact .inr (h3 h); exact .inl h⟩
theorem alone_2 {l : List Cel} {i : Nat} (h : wAt l i = 2) (ha : aloneC l i = false) : wAt l (i + 1) = 0 := by
 unfold aloneC at ha; rw [if_pos h] at ha; simpa using ha
theorem alone_0 {l : List Cel} {i : Nat} (h : wAt l i = 0) (ha : aloneC l i = false) : i ≠ 0 ∧ wAt l (i - 1) = 2 := by
 unfold aloneC at ha; rw [if_neg (by omega), if_pos h] at ha; simpa using ha
theorem wAt_lt {l : List Cel} {i : Nat} (h : wAt l i ≠ 9) : i < l.length := by
 by_cases q : i < l.length
 ·exact q
 ·exact absurd (wAt_out l i (by omega)) h
theorem right_w0 {c : Cel} (h : rightC c = true) (h0 : c.w = 0) : c.r = 0 ∧ c.m = 0 ∧ c.n = 0 := by
 unfold rightC at h; simp only [Bool.and_eq_true, if_pos h0, decide_eq_true_iff] at h; exact h.2
theorem right_w {c : Cel} (h : rightC c = true) : c.w = 0 ∨ c.w = 1 ∨ c.w = 2 := by
 unfold rightC at h
 simp only [Bool.and_eq_true] at h
 by_cases h0 : c.w = 0
 ·exact .inl h0
 ·rw [if_neg h0] at h
  by_cases hb : bearsC c = true
  ·unfold bearsC at hb; simp at hb; omega
  ·rw [if_neg hb] at h; cases h.2
theorem rightL_P (l : List Cel) : rightL l = decide (∀ i, i < l.length → okP l i = true) := by
 unfold rightL
 rw [Bool.eq_iff_iff, decide_eq_true_iff, decide_eq_true_iff]
 constructor
 ·intro H i hi
  obtain ⟨h1, h2, h3⟩ := (okAt_iff l i).1 (H i hi)
  refine (okP_iff l i).2 ⟨h1, h2, fun h => ?_⟩
  have h4 := alone_2 h h2
  have hi1 : i + 1 < l.length := wAt_lt (by omega)
  obtain ⟨k1, k2, k3⟩ := (okAt_iff l (i + 1)).1 (H _ hi1)
  have k4 := k3 h4
  rw [wAt_in l _ hi1] at h4
  obtain ⟨r1, r2, r3⟩ := right_w0 k1 h4
  rw [show i + 1 - 1 = i by omega] at k4
  generalize cAt l (i + 1) = c at *
  obtain ⟨r, m, n, w, p⟩ := c
  simp only at r1 r2 r3 h4 k4
  subst r1 r2 r3 h4 k4
  rfl
 ·intro H i hi
  obtain ⟨h1, h2, h3⟩ := (okP_iff l i).1 (H i hi)
  refine (okAt_iff l i).2 ⟨h1, h2, fun h => ?_⟩
  obtain ⟨h4, h5⟩ := alone_0 h h2
  have hi1 : i - 1 < l.length := by omega
  obtain ⟨k1, k2, k3⟩ := (okP_iff l (i - 1)).1 (H _ hi1)
  have k4 := k3 h5
  rw [show i - 1 + 1 = i by omega] at k4
  rw [k4]; rfl
theorem rightL_iff (l : List Cel) : rightL l = true ↔ ∀ i, i < l.length → okAt l i = true := by unfold rightL; rw [decide_eq_true_iff]
theorem rightL_no (l : List Cel) (i : Nat) (hi : i < l.length) (h : okAt l i = false) : rightL l = false := by
 cases q : rightL l
 ·rfl
 ·rw [(rightL_iff l).1 q i hi] at h; cases h
theorem rightL_noP (l : List Cel) (i : Nat) (hi : i < l.length) (h : okP l i = false) : rightL l = false := by
 cases q : rightL l
 ·rfl
 ·rw [rightL_P, decide_eq_true_iff] at q; rw [q i hi] at h; cases h
theorem rightL_yesP (l : List Cel) (h : ∀ i, i < l.length → okP l i = true) : rightL l = true := by rw [rightL_P, decide_eq_true_iff]; exact h
section
open Go.ChangeShapes Go.WideShapes Go.ChangeAt Go.RowKit
def eqP (f g b f' g' b' : Int) : Bool := (f == f') && ((g == g') && (b == b'))
def eqM (m n m' n' : Int) : Bool := (m == m') && (n == n')
def eqC (r m n w f g b r' m' n' w' f' g' b' : Int) : Bool := (r == r') && (eqM m n m' n' && ((w == w') && eqP f g b f' g' b'))
def fieldsAre (P : Program) (t : TypeId) (l : List (Bool × TypeId × Nat)) : Prop := (P.fieldsOf t).toList.map (fun f => (f.name == "_", f.type, f.offset)) = l
theorem fieldsPen : fieldsAre Tryz.prog 63 [(false, 5, 0), (false, 5, 1), (false, 5, 2)] := by unfold fieldsAre; kernel_rfl
theorem fieldsP : fieldsAre Tryz.prog 93 [(false, 5, 0), (false, 5, 1), (false, 5, 2)] := by unfold fieldsAre; kernel_rfl
theorem fieldsCell : fieldsAre Tryz.prog 65 [(false, 21, 0), (false, 61, 1), (false, 5, 3), (false, 63, 4)] := by unfold fieldsAre; kernel_rfl
theorem fieldsC : fieldsAre Tryz.prog 95 [(false, 3, 0), (false, 92, 1), (false, 5, 3), (false, 93, 4)] := by unfold fieldsAre; kernel_rfl
theorem part5 (xs : Array Value) (i : Nat) (x : Int) (h : xs[i]? = some (.int .u8 x)) (w : World) : (part 5 xs i).run Tryz.prog w = .ok (.int .u8 x) w := by
 unfold part
 simp [go_sem, h]
theorem part21 (xs : Array Value) (i : Nat) (x : Int) (h : xs[i]? = some (.int .i32 x)) (w : World) : (part 21 xs i).run Tryz.prog w = .ok (.int .i32 x) w := by
 unfold part
 simp [go_sem, h]
theorem part3 (xs : Array Value) (i : Nat) (x : Int) (h : xs[i]? = some (.int .i64 x)) (w : World) : (part 3 xs i).run Tryz.prog w = .ok (.int .i64 x) w := by
 unfold part
 simp [go_sem, h]
theorem equalP (t : TypeId) (ht : Tryz.prog.underlying t = some (.struct (Tryz.prog.fieldsOf t))) (hp : Tryz.prog.stoodInHeld t = false) (h3 : fieldsAre Tryz.prog t [(false, 5, 0), (false, 5, 1), (false, 5, 2)]) (d : Nat) (w : World) (f g b f' g' b' : Int) :
  (Op.equalIn (d + 2) t (.agg #[.int .u8 f, .int .u8 g, .int .u8 b]) (.agg #[.int .u8 f', .int .u8 g', .int .u8 b'])).run Tryz.prog w = .ok (eqP f g b f' g' b') w := by
 rw [run_equalIn_agg w (d + 1) t _ _ ht hp]
 unfold fieldsAre at h3
 generalize (Tryz.prog.fieldsOf t).toList = fs at h3
 have hl : fs.length = 3 := by have := congrArg List.length h3; simpa using this
 match fs, hl with
 | [f0, f1, f2], _ =>
  simp only [List.map_cons, List.map_nil, List.cons.injEq, Prod.mk.injEq, beq_eq_false_iff_ne, ne_eq, and_true] at h3
  obtain ⟨⟨n0, t0, o0⟩, ⟨n1, t1, o1⟩, n2, t2, o2⟩ := h3
  simp only [Op.eqFields, n0, n1, n2, t0, t1, t2, o0, o1, o2, ne_eq, not_false_eq_true, if_true, Sem.run_bind, part5 #[Value.int .u8 f, .int .u8 g, .int .u8 b] 0 f rfl, part5 #[Value.int .u8 f, .int .u8 g, .int .u8 b] 1 g rfl, part5 #[Value.int .u8 f, .int .u8 g, .int .u8 b] 2 b rfl,
   part5 #[Value.int .u8 f', .int .u8 g', .int .u8 b'] 0 f' rfl, part5 #[Value.int .u8 f', .int .u8 g', .int .u8 b'] 1 g' rfl, part5 #[Value.int .u8 f', .int .u8 g', .int .u8 b'] 2 b' rfl, Result.andThen_ok, run_equalIn_int w d 5 .u8 .u8 _ _ Tryz.underlying5, Sem.run_ite, Sem.run_pure]
  unfold eqP
  cases hf : f == f' <;> cases hg : g == g' <;> cases hb : b == b' <;> simp
theorem cellsI32 : Tryz.prog.cellsOf 21 = 1 := by kernel_rfl
theorem cellsI64 : Tryz.prog.cellsOf 3 = 1 := by kernel_rfl
theorem infoI32 : ∃ i, Tryz.prog.info? 21 = some i := Option.isSome_iff_exists.1 (by kernel_rfl)
theorem infoI64 : ∃ i, Tryz.prog.info? 3 = some i := Option.isSome_iff_exists.1 (by kernel_rfl)
theorem equalM (d : Nat) (w : World) (m n m' n' : Int) : (Op.equalIn (d + 2) 61 (.agg #[.int .i32 m, .int .i32 n]) (.agg #[.int .i32 m', .int .i32 n'])).run Tryz.prog w = .ok (eqM m n m' n') w := by
 obtain ⟨i, hi⟩ := infoI32
 rw [run_equalIn_array w (d + 1) _ _ Tryz.underlying61 hi, cellsI32]
 have hr : List.range 2 = [0, 1] := rfl
 rw [hr]
 simp only [Op.eqItems, Sem.run_bind, Nat.zero_mul, Nat.one_mul, part21 #[Value.int .i32 m, .int .i32 n] 0 m rfl, part21 #[Value.int .i32 m, .int .i32 n] 1 n rfl, part21 #[Value.int .i32 m', .int .i32 n'] 0 m' rfl, part21 #[Value.int .i32 m', .int .i32 n'] 1 n' rfl, Result.andThen_ok, run_equalIn_int w d 21 .i32 .i32 _ _ Tryz.underlying21, Sem.run_ite, Sem.run_pure]
 unfold eqM
 cases hf : m == m' <;> cases hg : n == n' <;> simp
theorem equalMI (d : Nat) (w : World) (m n m' n' : Int) : (Op.equalIn (d + 2) 92 (.agg #[.int .i64 m, .int .i64 n]) (.agg #[.int .i64 m', .int .i64 n'])).run Tryz.prog w = .ok (eqM m n m' n') w := by
 obtain ⟨i, hi⟩ := infoI64
 rw [run_equalIn_array w (d + 1) _ _ Tryz.underlying92 hi, cellsI64]
 have hr : List.range 2 = [0, 1] := rfl
 rw [hr]
 simp only [Op.eqItems, Sem.run_bind, Nat.zero_mul, Nat.one_mul, part3 #[Value.int .i64 m, .int .i64 n] 0 m rfl, part3 #[Value.int .i64 m, .int .i64 n] 1 n rfl, part3 #[Value.int .i64 m', .int .i64 n'] 0 m' rfl, part3 #[Value.int .i64 m', .int .i64 n'] 1 n' rfl, Result.andThen_ok, run_equalIn_int w d 3 .i64 .i64 _ _ Tryz.underlying3, Sem.run_ite, Sem.run_pure]
 unfold eqM
 cases hf : m == m' <;> cases hg : n == n' <;> simp
theorem partM (r m n w f g b : Value) (W : World) : (part 61 #[r, m, n, w, f, g, b] 1).run Tryz.prog W = .ok (.agg #[m, n]) W := by kernel_rfl
theorem partMI (r m n w f g b : Value) (W : World) : (part 92 #[r, m, n, w, f, g, b] 1).run Tryz.prog W = .ok (.agg #[m, n]) W := by kernel_rfl
theorem partPen (r m n w f g b : Value) (W : World) : (part 63 #[r, m, n, w, f, g, b] 4).run Tryz.prog W = .ok (.agg #[f, g, b]) W := by kernel_rfl
theorem partP (r m n w f g b : Value) (W : World) : (part 93 #[r, m, n, w, f, g, b] 4).run Tryz.prog W = .ok (.agg #[f, g, b]) W := by kernel_rfl
theorem equalCell (d : Nat) (W : World) (r m n w f g b r' m' n' w' f' g' b' : Int) :
  (Op.equalIn (d + 3) 65 (.agg #[.int .i32 r, .int .i32 m, .int .i32 n, .int .u8 w, .int .u8 f, .int .u8 g, .int .u8 b]) (.agg #[.int .i32 r', .int .i32 m', .int .i32 n', .int .u8 w', .int .u8 f', .int .u8 g', .int .u8 b'])).run Tryz.prog W = .ok (eqC r m n w f g b r' m' n' w' f' g' b') W := by
 rw [run_equalIn_agg W (d + 2) 65 _ _ Tryz.underlying65 Tryz.stoodInHeld65]
 have h3 := fieldsCell
 unfold fieldsAre at h3
 generalize (Tryz.prog.fieldsOf 65).toList = fs at h3
 have hl : fs.length = 4 := by have := congrArg List.length h3; simpa using this
 match fs, hl with
 | [f0, f1, f2, f3], _ =>
  simp only [List.map_cons, List.map_nil, List.cons.injEq, Prod.mk.injEq, beq_eq_false_iff_ne, ne_eq, and_true] at h3
  obtain ⟨⟨n0, t0, o0⟩, ⟨n1, t1, o1⟩, ⟨n2, t2, o2⟩, n3, t3, o3⟩ := h3
  simp only [Op.eqFields, n0, n1, n2, n3, t0, t1, t2, t3, o0, o1, o2, o3, ne_eq, not_false_eq_true, if_true, Sem.run_bind, partM, partPen,
   part21 #[Value.int .i32 r, .int .i32 m, .int .i32 n, .int .u8 w, .int .u8 f, .int .u8 g, .int .u8 b] 0 r rfl, part21 #[Value.int .i32 r', .int .i32 m', .int .i32 n', .int .u8 w', .int .u8 f', .int .u8 g', .int .u8 b'] 0 r' rfl,
   part5 #[Value.int .i32 r, .int .i32 m, .int .i32 n, .int .u8 w, .int .u8 f, .int .u8 g, .int .u8 b] 3 w rfl, part5 #[Value.int .i32 r', .int .i32 m', .int .i32 n', .int .u8 w', .int .u8 f', .int .u8 g', .int .u8 b'] 3 w' rfl,
   Result.andThen_ok, run_equalIn_int W (d + 1) 5 .u8 .u8 _ _ Tryz.underlying5, run_equalIn_int W (d + 1) 21 .i32 .i32 _ _ Tryz.underlying21, equalM d, equalP 63 Tryz.underlying63 Tryz.stoodInHeld63 fieldsPen d, Sem.run_ite, Sem.run_pure]
  unfold eqC
  cases r == r' <;> cases eqM m n m' n' <;> cases w == w' <;> cases eqP f g b f' g' b' <;> simp
theorem equalC (d : Nat) (W : World) (r m n w f g b r' m' n' w' f' g' b' : Int) :
  (Op.equalIn (d + 3) 95 (.agg #[.int .i64 r, .int .i64 m, .int .i64 n, .int .u8 w, .int .u8 f, .int .u8 g, .int .u8 b]) (.agg #[.int .i64 r', .int .i64 m', .int .i64 n', .int .u8 w', .int .u8 f', .int .u8 g', .int .u8 b'])).run Tryz.prog W = .ok (eqC r m n w f g b r' m' n' w' f' g' b') W := by
 rw [run_equalIn_agg W (d + 2) 95 _ _ Tryz.underlying95 Tryz.stoodInHeld95]
 have h3 := fieldsC
 unfold fieldsAre at h3
 generalize (Tryz.prog.fieldsOf 95).toList = fs at h3
 have hl : fs.length = 4 := by have := congrArg List.length h3; simpa using this
 match fs, hl with
 | [f0, f1, f2, f3], _ =>
  simp only [List.map_cons, List.map_nil, List.cons.injEq, Prod.mk.injEq, beq_eq_false_iff_ne, ne_eq, and_true] at h3
  obtain ⟨⟨n0, t0, o0⟩, ⟨n1, t1, o1⟩, ⟨n2, t2, o2⟩, n3, t3, o3⟩ := h3
  simp only [Op.eqFields, n0, n1, n2, n3, t0, t1, t2, t3, o0, o1, o2, o3, ne_eq, not_false_eq_true, if_true, Sem.run_bind, partMI, partP,
   part3 #[Value.int .i64 r, .int .i64 m, .int .i64 n, .int .u8 w, .int .u8 f, .int .u8 g, .int .u8 b] 0 r rfl, part3 #[Value.int .i64 r', .int .i64 m', .int .i64 n', .int .u8 w', .int .u8 f', .int .u8 g', .int .u8 b'] 0 r' rfl,
   part5 #[Value.int .i64 r, .int .i64 m, .int .i64 n, .int .u8 w, .int .u8 f, .int .u8 g, .int .u8 b] 3 w rfl, part5 #[Value.int .i64 r', .int .i64 m', .int .i64 n', .int .u8 w', .int .u8 f', .int .u8 g', .int .u8 b'] 3 w' rfl,
   Result.andThen_ok, run_equalIn_int W (d + 1) 5 .u8 .u8 _ _ Tryz.underlying5, run_equalIn_int W (d + 1) 3 .i64 .i64 _ _ Tryz.underlying3, equalMI d, equalP 93 Tryz.underlying93 Tryz.stoodInHeld93 fieldsP d, Sem.run_ite, Sem.run_pure]
  unfold eqC
  cases r == r' <;> cases eqM m n m' n' <;> cases w == w' <;> cases eqP f g b f' g' b' <;> simp
theorem eqlPen (f g b f' g' b' : Int) (w : World) : (binOp .eql 63 (.agg #[.int .u8 f, .int .u8 g, .int .u8 b]) (.agg #[.int .u8 f', .int .u8 g', .int .u8 b'])).run Tryz.prog w = .ok (.bool (eqP f g b f' g' b')) w := by
 rw [run_eql_struct, equalP 63 Tryz.underlying63 Tryz.stoodInHeld63 fieldsPen 9998]; rfl
theorem eqlCell (W : World) (r m n w f g b r' m' n' w' f' g' b' : Int) :
  (binOp .eql 65 (.agg #[.int .i32 r, .int .i32 m, .int .i32 n, .int .u8 w, .int .u8 f, .int .u8 g, .int .u8 b]) (.agg #[.int .i32 r', .int .i32 m', .int .i32 n', .int .u8 w', .int .u8 f', .int .u8 g', .int .u8 b'])).run Tryz.prog W = .ok (.bool (eqC r m n w f g b r' m' n' w' f' g' b')) W := by
 rw [run_eql_struct, equalCell 9997]; rfl
theorem eqC_iff (r m n w f g b r' m' n' w' f' g' b' : Int) : eqC r m n w f g b r' m' n' w' f' g' b' = decide (r = r' ∧ m = m' ∧ n = n' ∧ w = w' ∧ f = f' ∧ g = g' ∧ b = b') := by
 unfold eqC eqM eqP; rw [Bool.eq_iff_iff]; simp; grind
theorem eqC_self (r m n w f g b : Int) : eqC r m n w f g b r m n w f g b = true := by rw [eqC_iff]; simp
end
end Go.Proofs.YtoddfaoifnkhlaaGreatDoor
