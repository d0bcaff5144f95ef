/-
  A region that leaves its order open, walked in one order: some operations are taken early (each yields its value in whatever world), the others come up alone, one after the other. Of no program.
-/
import Derived.Test.YtfngnmopdfojmaaKit
import Derived.Orders
namespace Go.Proofs.Ytfngnmopdfojmaa
set_option maxRecDepth 100000
open Go.RowKit

/-- The operations by their numbers. -/
def pickOps (ops : Array Oper) : List Nat → List Oper
  | [] => []
  | i :: r => match ops[i]? with
    | some o => o :: pickOps ops r
    | none => []

/-- '(true, [i])': number i is taken early. '(false, l)': those of l come up alone, in this order. -/
def wpChain (P : Program) (ops : Array Oper) (Q : Exit → Act → World → Prop) : List (Bool × List Nat) → Act → World → Prop
  | [], a, w => Q .normal a w
  | (true, l) :: r, a, w => match pickOps ops l with
    | [o] => ∃ v, Yields P ops o v a ∧ wpChain P ops Q r (a.put o.dst v) w
    | _ => False
  | (false, l) :: r, a, w => ∀ K : Act → World → Prop, (∀ a w, wpChain P ops Q r a w → K a w) → wpList P ops (Exit.then K Q) (pickOps ops l) a w

def aloneOk (ops : Array Oper) : List Nat → Array Bool → Bool
  | [], _ => true
  | i :: r, listed => (Region.ready .any ops listed == [i]) && aloneOk ops r (listed.setIfInBounds i true)
def listAll : List Nat → Array Bool → Array Bool
  | [], listed => listed
  | i :: r, listed => listAll r (listed.setIfInBounds i true)
def chainOk (ops : Array Oper) : List (Bool × List Nat) → Array Bool → Bool
  | [], listed => (Region.ready .any ops listed).isEmpty
  | (true, l) :: r, listed => match l with
    | [i] => Region.free .any ops listed i && (Region.ready .any ops listed).contains i && chainOk ops r (listed.setIfInBounds i true)
    | _ => false
  | (false, l) :: r, listed => aloneOk ops l listed && chainOk ops r (listAll l listed)
def chainLen : List (Bool × List Nat) → Nat
  | [] => 0
  | (_, l) :: r => l.length + chainLen r

section
variable {P : Program} {ops : Array Oper} {Q : Exit → Act → World → Prop}

theorem upon_list {o : Oper} {a : Act} {K M N : Act → World → Prop} (hM : ∀ a w, M a w → K a w) (r : Result Next) (h : o.upon P a M (Exit.then N Q) r) : o.upon P a K Q r := by
  cases r with
  | ok n w' =>
    cases n <;> simp only [Oper.upon] at h ⊢
    case value => exact hM _ _ h
    case skip => exact hM _ _ h
    case defer => exact hM _ _ h
    case enter =>
      refine Calls.mono h fun e w'' he => ?_
      cases e with
      | returned => exact hM _ _ he
      | panicked => exact he
      | outgrown => exact he
    case row => exact Rows.mono h fun _ _ he => hM _ _ he
  | halt x w' => cases x <;> simp only [Oper.upon] at h ⊢ <;> exact h

/-- Those that come up alone. -/
theorem any_of_list (N : Act → World → Prop) (fuel : Nat) : ∀ (l : List Nat) (listed : Array Bool) (a : Act) (w : World), aloneOk ops l listed = true →
    (∀ a w, N a w → wpAny P .any ops Q fuel (listAll l listed) a w) → wpList P ops (Exit.then N Q) (pickOps ops l) a w → wpAny P .any ops Q (l.length + fuel) listed a w := by
  intro l
  induction l with
  | nil => intro listed a w _ hN h; simpa [listAll] using hN a w h
  | cons i r ih =>
    intro listed a w hok hN h
    simp only [aloneOk, Bool.and_eq_true, beq_iff_eq] at hok
    obtain ⟨hr, hok⟩ := hok
    have hlen : (i :: r).length + fuel = (r.length + fuel) + 1 := by simp; omega
    rw [hlen]
    refine wpAny_all hr (by simp) fun j hj => ?_
    obtain rfl : j = i := by simpa using hj
    have hmem : j ∈ Region.ready .any ops listed := by rw [hr]; simp
    obtain ⟨_, o, ho, _⟩ := mem_ready.1 hmem
    simp only [pickOps, ho] at h
    unfold wpOp
    simp only [ho]
    unfold wpList at h
    split at h
    · rename_i hw
      rw [if_pos hw]
      rcases h with h | ⟨h1, h2⟩
      · exact .inl (upon_list (fun a' w' h' => ih _ a' w' hok hN h') _ h)
      · exact .inr ⟨h1, h2⟩
    · rename_i hw
      rw [if_neg hw]
      exact ih _ _ _ hok hN h

theorem any_of_chain (hs : Region.noSelect ops = true) (hQ : ∀ c (d : Tmp) v a w, Q (.panic c) (Act.put a (some d) v) w → Q (.panic c) a w) :
    ∀ (l : List (Bool × List Nat)) (listed : Array Bool) (a : Act) (w : World), chainOk ops l listed = true → wpChain P ops Q l a w → wpAny P .any ops Q (chainLen l) listed a w := by
  intro l
  induction l with
  | nil =>
    intro listed a w hok h
    exact wpAny_done (by simpa [chainOk] using hok) h 0
  | cons x r ih =>
    obtain ⟨b, l⟩ := x
    intro listed a w hok h
    cases b with
    | true =>
      match l, hok, h with
      | [i], hok, h =>
        simp only [chainOk, Bool.and_eq_true] at hok
        obtain ⟨⟨hf, hr⟩, hok⟩ := hok
        have hmem : i ∈ Region.ready .any ops listed := by simpa using hr
        obtain ⟨_, o, ho, _⟩ := mem_ready.1 hmem
        simp only [wpChain, pickOps, ho] at h
        obtain ⟨v, hy, h⟩ := h
        have hlen : chainLen ((true, [i]) :: r) = chainLen r + 1 := by simp [chainLen]; omega
        rw [hlen]
        refine wpAny_take ho hs hf hr (fun c a w hh => ?_) hy (ih _ _ _ hok h)
        cases hd : o.dst with
        | none => rw [hd] at hh; exact hh
        | some d => rw [hd] at hh; exact hQ c d v a w hh
      | [], hok, _ => simp [chainOk] at hok
      | _ :: _ :: _, hok, _ => simp [chainOk] at hok
    | false =>
      simp only [chainOk, Bool.and_eq_true] at hok
      obtain ⟨h1, h2⟩ := hok
      exact any_of_list (wpChain P ops Q r) (chainLen r) l listed a w h1 (fun a w h' => ih _ a w h2 h') (h _ fun _ _ h' => h')

/-- A REGION THAT DRAWS ITS ORDER, in the order of the chain. -/
theorem wp_region_chain {id : Nat} {a : Act} {w : World} (l : List (Bool × List Nat)) (hm : P.follows .mixedOrders = true) (hs : Region.noSelect ops = true)
    (hok : (chainOk ops l (Array.replicate ops.size false) && (chainLen l == ops.size)) = true) (hQ : ∀ c (d : Tmp) v a w, Q (.panic c) (Act.put a (some d) v) w → Q (.panic c) a w)
    (h : wpChain P ops Q l a w.drew) : (Code.region id ops true).wp P Q a w := by
  simp only [Bool.and_eq_true, beq_iff_eq] at hok
  refine wp_region_any hm ?_
  rw [← hok.2]
  exact any_of_chain hs hQ l _ a _ (by rw [hok.2]; exact hok.1) h

theorem chain_alone {l : List Nat} {r : List (Bool × List Nat)} {os : List Oper} {a : Act} {w : World} (hos : pickOps ops l = os)
    (h : ∀ K : Act → World → Prop, Hid (∀ a w, wpChain P ops Q r a w → K a w) → wpList P ops (Exit.then K Q) os a w) : wpChain P ops Q ((false, l) :: r) a w := by
  subst hos
  exact fun K hK => h K hK
theorem chain_nil {a : Act} {w : World} (h : Q .normal a w) : wpChain P ops Q [] a w := h
theorem chain_take {l : List Nat} {r : List (Bool × List Nat)} {o : Oper} {v : Value} {a : Act} {w : World} (ho : pickOps ops l = [o]) (hy : Yields P ops o v a)
    (h : wpChain P ops Q r (a.put o.dst v) w) : wpChain P ops Q ((true, l) :: r) a w := by
  simp only [wpChain, ho]
  exact ⟨v, hy, h⟩
end
end Go.Proofs.Ytfngnmopdfojmaa
