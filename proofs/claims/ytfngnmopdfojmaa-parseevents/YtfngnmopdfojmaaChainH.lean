/-
  A region that leaves its order open, walked in one order, under a fact S on the worlds: some operations are taken early (each yields its value in every world that meets S), the others come up alone, and S is shown behind each. Of no program.
-/
import Derived.Test.YtfngnmopdfojmaaChain
import Derived.Deep.RegionHeld
namespace Go.Proofs.Ytfngnmopdfojmaa
set_option maxRecDepth 100000
open Go.RowKit

/-- '(true, i)': number i is taken early. '(false, i)': it comes up alone. -/
def wpChainH (P : Program) (ops : Array Oper) (Q : Exit → Act → World → Prop) (S : World → Prop) : List (Bool × Nat) → Act → World → Prop
  | [], a, w => Q .normal a w
  | (true, i) :: r, a, w => match ops[i]? with
    | some o => ∃ v, YieldsIf P ops S o v a ∧ wpChainH P ops Q S r (a.put o.dst v) w
    | none => False
  | (false, i) :: r, a, w => match ops[i]? with
    | some o => ∀ K : Act → World → Prop, (∀ a w, S w → wpChainH P ops Q S r a w → K a w) → wpList P ops (Exit.then K Q) [o] a w
    | none => False

def chainOkH (ops : Array Oper) : List (Bool × Nat) → Array Bool → Bool
  | [], listed => (Region.ready .any ops listed).isEmpty
  | (true, i) :: r, listed => Region.free .any ops listed i && (Region.ready .any ops listed).contains i && chainOkH ops r (listed.setIfInBounds i true)
  | (false, i) :: r, listed => (Region.ready .any ops listed == [i]) && chainOkH ops r (listed.setIfInBounds i true)

section
variable {P : Program} {ops : Array Oper} {Q : Exit → Act → World → Prop} {S : World → Prop}

theorem any_of_chainH (hs : Region.noSelect ops = true) (hQ : ∀ c (d : Tmp) v a w, Q (.panic c) (Act.put a (some d) v) w → Q (.panic c) a w) :
    ∀ (l : List (Bool × Nat)) (listed : Array Bool) (a : Act) (w : World), chainOkH ops l listed = true → S w → wpChainH P ops Q S l a w → wpAnyH P .any ops Q S l.length listed a w := by
  intro l
  induction l with
  | nil =>
    intro listed a w hok _ h
    exact wpAnyH_done (by simpa [chainOkH] using hok) h 0
  | cons x r ih =>
    obtain ⟨b, i⟩ := x
    intro listed a w hok hS h
    cases b with
    | true =>
      simp only [chainOkH, Bool.and_eq_true] at hok
      obtain ⟨⟨hf, hr⟩, hok⟩ := hok
      have hmem : i ∈ Region.ready .any ops listed := by simpa using hr
      obtain ⟨_, o, ho, _⟩ := mem_ready.1 hmem
      simp only [wpChainH, ho] at h
      obtain ⟨v, hy, h⟩ := h
      refine wpAnyH_take ho hs hf hr (fun c a w hh => ?_) hy hS (ih _ _ _ hok hS h)
      cases hd : o.dst with
      | none => rw [hd] at hh; exact hh
      | some d => rw [hd] at hh; exact hQ c d v a w hh
    | false =>
      simp only [chainOkH, Bool.and_eq_true, beq_iff_eq] at hok
      obtain ⟨hr, hok⟩ := hok
      refine wpAnyH_all hr (by simp) fun j hj => ?_
      obtain rfl : j = i := by simpa using hj
      have hmem : j ∈ Region.ready .any ops listed := by rw [hr]; simp
      obtain ⟨_, o, ho, _⟩ := mem_ready.1 hmem
      simp only [wpChainH, ho] at h
      have h := h (fun a' w' => S w' ∧ wpAnyH P .any ops Q S r.length (listed.setIfInBounds j true) a' w') (fun a' w' hS' h' => ⟨hS', ih _ a' w' hok hS' h'⟩)
      unfold wpOp
      simp only [ho]
      unfold wpList at h
      split at h
      · rename_i hw
        rw [if_pos hw]
        rcases h with h | ⟨h1, h2⟩
        · exact .inl (upon_list (fun a' w' h' => h') _ h)
        · exact .inr ⟨h1, h2⟩
      · rename_i hw
        rw [if_neg hw]
        exact h

/-- A REGION THAT DRAWS ITS ORDER, in the order of the chain. -/
theorem wp_region_chainH {id : Nat} {a : Act} {w : World} (S : World → Prop) (l : List (Bool × Nat)) (hm : P.follows .mixedOrders = true) (hs : Region.noSelect ops = true)
    (hok : (chainOkH ops l (Array.replicate ops.size false) && (l.length == ops.size)) = true) (hQ : ∀ c (d : Tmp) v a w, Q (.panic c) (Act.put a (some d) v) w → Q (.panic c) a w)
    (hS : S w.drew) (h : wpChainH P ops Q S l a w.drew) : (Code.region id ops true).wp P Q a w := by
  simp only [Bool.and_eq_true, beq_iff_eq] at hok
  refine wp_region_held (S := S) hm ?_
  rw [← hok.2]
  exact any_of_chainH hs hQ l _ a _ (by rw [hok.2]; exact hok.1) hS h

theorem chainH_alone {i : Nat} {r : List (Bool × Nat)} {o : Oper} {a : Act} {w : World} (ho : ops[i]? = some o)
    (h : ∀ K : Act → World → Prop, Hid (∀ a w, S w → wpChainH P ops Q S r a w → K a w) → wpList P ops (Exit.then K Q) [o] a w) : wpChainH P ops Q S ((false, i) :: r) a w := by
  simp only [wpChainH, ho]
  exact fun K hK => h K hK
theorem chainH_nil {a : Act} {w : World} (h : Q .normal a w) : wpChainH P ops Q S [] a w := h
theorem chainH_take {i : Nat} {r : List (Bool × Nat)} {o : Oper} {v : Value} {a : Act} {w : World} (ho : ops[i]? = some o) (hw : Region.wanted o (yielded ops a.tmps) = true)
    (hy : ∀ w, S w → (execOp a.eval o).run P w = .ok (.value v) w) (h : wpChainH P ops Q S r (a.put o.dst v) w) : wpChainH P ops Q S ((true, i) :: r) a w := by
  simp only [wpChainH, ho]
  exact ⟨v, Or.inl ⟨hw, hy⟩, h⟩
theorem chainH_skip {i : Nat} {r : List (Bool × Nat)} {o : Oper} {a : Act} {w : World} (ho : ops[i]? = some o) (hw : Region.wanted o (yielded ops a.tmps) = false)
    (h : wpChainH P ops Q S r (a.put o.dst undef) w) : wpChainH P ops Q S ((true, i) :: r) a w := by
  simp only [wpChainH, ho]
  exact ⟨undef, Or.inr ⟨hw, rfl⟩, h⟩
/-- The same of one that comes up alone, where its guard says no. -/
theorem chainH_pass {i : Nat} {r : List (Bool × Nat)} {o : Oper} {a : Act} {w : World} (ho : ops[i]? = some o) (hw : Region.wanted o (yielded ops a.tmps) = false) (hS : S w)
    (h : wpChainH P ops Q S r (a.put o.dst undef) w) : wpChainH P ops Q S ((false, i) :: r) a w := by
  simp only [wpChainH, ho]
  intro K hK
  unfold wpList
  rw [if_neg (by rw [hw]; simp)]
  exact hK _ _ hS h
end
end Go.Proofs.Ytfngnmopdfojmaa
