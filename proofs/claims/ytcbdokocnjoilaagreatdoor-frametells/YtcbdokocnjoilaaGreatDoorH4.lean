/-
  Contracts and plain mathematics of Chain, ChainH, CRight, CRRight, Rws.
-/
import Derived.Test.YtcbdokocnjoilaaGreatDoorH1
import Derived.Orders
import Derived.Deep.RegionHeld
import Derived.Test.YtcbdokocnjoilaaGreatDoorH3
namespace Go.Proofs.YtcbdokocnjoilaaGreatDoor
set_option maxRecDepth 100000
set_option linter.unusedVariables false
set_option maxHeartbeats 8000000
section
open Go.RowKit
/-- The operations by their numbers. -/
def pickOps (ops : Array Oper) : List Nat → List Oper
  | [] => []
  | i :: r => match ops[i]? with
    | some o => o :: pickOps ops r
    | none => []

/-- '(true, [i])': number i is taken early. '(false, l)': those of l come up alone, in this order. -/
def wpChain (P : Program) (ops : Array Oper) (Q : Exit → Act → World → Prop) : List (Bool × List Nat) → Act → World → Prop
  | [], a, w => Q .normal a w
  | (true, l) :: r, a, w => match pickOps ops l with
    | [o] => ∃ v, Yields P ops o v a ∧ wpChain P ops Q r (a.put o.dst v) w
    | _ => False
  | (false, l) :: r, a, w => ∀ K : Act → World → Prop, (∀ a w, wpChain P ops Q r a w → K a w) → wpList P ops (Exit.then K Q) (pickOps ops l) a w

def aloneOk (ops : Array Oper) : List Nat → Array Bool → Bool
  | [], _ => true
  | i :: r, listed => (Region.ready .any ops listed == [i]) && aloneOk ops r (listed.setIfInBounds i true)
def listAll : List Nat → Array Bool → Array Bool
  | [], listed => listed
  | i :: r, listed => listAll r (listed.setIfInBounds i true)
def chainOk (ops : Array Oper) : List (Bool × List Nat) → Array Bool → Bool
  | [], listed => (Region.ready .any ops listed).isEmpty
  | (true, l) :: r, listed => match l with
    | [i] => Region.free .any ops listed i && (Region.ready .any ops listed).contains i && chainOk ops r (listed.setIfInBounds i true)
    | _ => false
  | (false, l) :: r, listed => aloneOk ops l listed && chainOk ops r (listAll l listed)
def chainLen : List (Bool × List Nat) → Nat
  | [] => 0
  | (_, l) :: r => l.length + chainLen r

section
variable {P : Program} {ops : Array Oper} {Q : Exit → Act → World → Prop}

theorem upon_list {o : Oper} {a : Act} {K M N : Act → World → Prop} (hM : ∀ a w, M a w → K a w) (r : Result Next) (h : o.upon P a M (Exit.then N Q) r) : o.upon P a K Q r := by
  cases r with
  | ok n w' =>
    cases n <;> simp only [Oper.upon] at h ⊢
    case value => exact hM _ _ h
    case skip => exact hM _ _ h
    case defer => exact hM _ _ h
    case enter =>
      refine Calls.mono h fun e w'' he => ?_
      cases e with
      | returned => exact hM _ _ he
      | panicked => exact he
      | outgrown => exact he
    case row => exact Rows.mono h fun _ _ he => hM _ _ he
  | halt x w' => cases x <;> simp only [Oper.upon] at h ⊢ <;> exact h

/-- Those that come up alone. -/
theorem any_of_list (N : Act → World → Prop) (fuel : Nat) : ∀ (l : List Nat) (listed : Array Bool) (a : Act) (w : World), aloneOk ops l listed = true →
    (∀ a w, N a w → wpAny P .any ops Q fuel (listAll l listed) a w) → wpList P ops (Exit.then N Q) (pickOps ops l) a w → wpAny P .any ops Q (l.length + fuel) listed a w := by
  intro l
  induction l with
  | nil => intro listed a w _ hN h; simpa [listAll] using hN a w h
  | cons i r ih =>
    intro listed a w hok hN h
    simp only [aloneOk, Bool.and_eq_true, beq_iff_eq] at hok
    obtain ⟨hr, hok⟩ := hok
    have hlen : (i :: r).length + fuel = (r.length + fuel) + 1 := by simp; omega
    rw [hlen]
    refine wpAny_all hr (by simp) fun j hj => ?_
    obtain rfl : j = i := by simpa using hj
    have hmem : j ∈ Region.ready .any ops listed := by rw [hr]; simp
    obtain ⟨_, o, ho, _⟩ := mem_ready.1 hmem
    simp only [pickOps, ho] at h
    unfold wpOp
    simp only [ho]
    unfold wpList at h
    split at h
    · rename_i hw
      rw [if_pos hw]
      rcases h with h | ⟨h1, h2⟩
      · exact .inl (upon_list (fun a' w' h' => ih _ a' w' hok hN h') _ h)
      · exact .inr ⟨h1, h2⟩
    · rename_i hw
      rw [if_neg hw]
      exact ih _ _ _ hok hN h

theorem any_of_chain (hs : Region.noSelect ops = true) (hQ : ∀ c (d : Tmp) v a w, Q (.panic c) (Act.put a (some d) v) w → Q (.panic c) a w) :
    ∀ (l : List (Bool × List Nat)) (listed : Array Bool) (a : Act) (w : World), chainOk ops l listed = true → wpChain P ops Q l a w → wpAny P .any ops Q (chainLen l) listed a w := by
  intro l
  induction l with
  | nil =>
    intro listed a w hok h
    exact wpAny_done (by simpa [chainOk] using hok) h 0
  | cons x r ih =>
    obtain ⟨b, l⟩ := x
    intro listed a w hok h
    cases b with
    | true =>
      match l, hok, h with
      | [i], hok, h =>
        simp only [chainOk, Bool.and_eq_true] at hok
        obtain ⟨⟨hf, hr⟩, hok⟩ := hok
        have hmem : i ∈ Region.ready .any ops listed := by simpa using hr
        obtain ⟨_, o, ho, _⟩ := mem_ready.1 hmem
        simp only [wpChain, pickOps, ho] at h
        obtain ⟨v, hy, h⟩ := h
        have hlen : chainLen ((true, [i]) :: r) = chainLen r + 1 := by simp [chainLen]; omega
        rw [hlen]
        refine wpAny_take ho hs hf hr (fun c a w hh => ?_) hy (ih _ _ _ hok h)
        cases hd : o.dst with
        | none => rw [hd] at hh; exact hh
        | some d => rw [hd] at hh; exact hQ c d v a w hh
      | [], hok, _ => simp [chainOk] at hok
      | _ :: _ :: _, hok, _ => simp [chainOk] at hok
    | false =>
      simp only [chainOk, Bool.and_eq_true] at hok
      obtain ⟨h1, h2⟩ := hok
      exact any_of_list (wpChain P ops Q r) (chainLen r) l listed a w h1 (fun a w h' => ih _ a w h2 h') (h _ fun _ _ h' => h')

/-- A REGION THAT DRAWS ITS ORDER, in the order of the chain. -/
theorem wp_region_chain {id : Nat} {a : Act} {w : World} (l : List (Bool × List Nat)) (hm : P.follows .mixedOrders = true) (hs : Region.noSelect ops = true)
    (hok : (chainOk ops l (Array.replicate ops.size false) && (chainLen l == ops.size)) = true) (hQ : ∀ c (d : Tmp) v a w, Q (.panic c) (Act.put a (some d) v) w → Q (.panic c) a w)
    (h : wpChain P ops Q l a w.drew) : (Code.region id ops true).wp P Q a w := by
  simp only [Bool.and_eq_true, beq_iff_eq] at hok
  refine wp_region_any hm ?_
  rw [← hok.2]
  exact any_of_chain hs hQ l _ a _ (by rw [hok.2]; exact hok.1) h

theorem chain_alone {l : List Nat} {r : List (Bool × List Nat)} {os : List Oper} {a : Act} {w : World} (hos : pickOps ops l = os)
    (h : ∀ K : Act → World → Prop, Hid (∀ a w, wpChain P ops Q r a w → K a w) → wpList P ops (Exit.then K Q) os a w) : wpChain P ops Q ((false, l) :: r) a w := by
  subst hos
  exact fun K hK => h K hK
theorem chain_nil {a : Act} {w : World} (h : Q .normal a w) : wpChain P ops Q [] a w := h
theorem chain_take {l : List Nat} {r : List (Bool × List Nat)} {o : Oper} {v : Value} {a : Act} {w : World} (ho : pickOps ops l = [o]) (hy : Yields P ops o v a)
    (h : wpChain P ops Q r (a.put o.dst v) w) : wpChain P ops Q ((true, l) :: r) a w := by
  simp only [wpChain, ho]
  exact ⟨v, hy, h⟩
end
/-! ### the steps, their closed facts filled -/
section
variable {P : Program} {ops : Array Oper} {Q : Exit → Act → World → Prop}
theorem rgC {id : Nat} {a : Act} {w : World} (l : List (Bool × List Nat)) (h : wpChain P ops Q l a w.drew) (hm : P.follows .mixedOrders = true := by kernel_rfl) (hs : Region.noSelect ops = true := by kernel_rfl)
    (hok : (chainOk ops l (Array.replicate ops.size false) && (chainLen l == ops.size)) = true := by kernel_rfl) (hQ : ∀ c (d : Tmp) v a w, Q (.panic c) (Act.put a (some d) v) w → Q (.panic c) a w := by exact fun _ _ _ _ _ h => h) : (Code.region id ops true).wp P Q a w := wp_region_chain l hm hs hok hQ h
theorem alC {l : List Nat} {r : List (Bool × List Nat)} {os : List Oper} {a : Act} {w : World}
    (h : ∀ K : Act → World → Prop, Hid (∀ a w, wpChain P ops Q r a w → K a w) → wpList P ops (Exit.then K Q) os a w) (ho : pickOps ops l = os := by simp only [pickOps, List.getElem?_toArray, List.getElem?_cons_zero, List.getElem?_cons_succ] <;> rfl) : wpChain P ops Q ((false, l) :: r) a w := chain_alone ho h
theorem stC {l : List Nat} {r : List (Bool × List Nat)} {o : Oper} {v : Value} {a a2 : Act} {w : World} (ho : pickOps ops l = [o] := by simp only [pickOps, List.getElem?_toArray, List.getElem?_cons_zero, List.getElem?_cons_succ] <;> rfl)
    (hw : Region.wanted o (yielded ops a.tmps) = true := by rfl) (hy : ∀ w, (execOp a.eval o).run P w = .ok (.value v) w := by intro w; go_simp <;> with_reducible rfl)
    (ha : a.put o.dst v = a2 := by simp only [Act.put, List.setIfInBounds_toArray, List.set_cons_zero, List.set_cons_succ] <;> rfl) (h : wpChain P ops Q r a2 w) : wpChain P ops Q ((true, l) :: r) a w := chain_take ho (Or.inl ⟨hw, hy⟩) (ha ▸ h)
end
/-- '(true, i)': number i is taken early. '(false, i)': it comes up alone. -/
def wpChainH (P : Program) (ops : Array Oper) (Q : Exit → Act → World → Prop) (S : World → Prop) : List (Bool × Nat) → Act → World → Prop
  | [], a, w => Q .normal a w
  | (true, i) :: r, a, w => match ops[i]? with
    | some o => ∃ v, YieldsIf P ops S o v a ∧ wpChainH P ops Q S r (a.put o.dst v) w
    | none => False
  | (false, i) :: r, a, w => match ops[i]? with
    | some o => ∀ K : Act → World → Prop, (∀ a w, S w → wpChainH P ops Q S r a w → K a w) → wpList P ops (Exit.then K Q) [o] a w
    | none => False

def chainOkH (ops : Array Oper) : List (Bool × Nat) → Array Bool → Bool
  | [], listed => (Region.ready .any ops listed).isEmpty
  | (true, i) :: r, listed => Region.free .any ops listed i && (Region.ready .any ops listed).contains i && chainOkH ops r (listed.setIfInBounds i true)
  | (false, i) :: r, listed => (Region.ready .any ops listed == [i]) && chainOkH ops r (listed.setIfInBounds i true)

section
variable {P : Program} {ops : Array Oper} {Q : Exit → Act → World → Prop} {S : World → Prop}

theorem any_of_chainH (hs : Region.noSelect ops = true) (hQ : ∀ c (d : Tmp) v a w, Q (.panic c) (Act.put a (some d) v) w → Q (.panic c) a w) :
    ∀ (l : List (Bool × Nat)) (listed : Array Bool) (a : Act) (w : World), chainOkH ops l listed = true → S w → wpChainH P ops Q S l a w → wpAnyH P .any ops Q S l.length listed a w := by
  intro l
  induction l with
  | nil =>
    intro listed a w hok _ h
    exact wpAnyH_done (by simpa [chainOkH] using hok) h 0
  | cons x r ih =>
    obtain ⟨b, i⟩ := x
    intro listed a w hok hS h
    cases b with
    | true =>
      simp only [chainOkH, Bool.and_eq_true] at hok
      obtain ⟨⟨hf, hr⟩, hok⟩ := hok
      have hmem : i ∈ Region.ready .any ops listed := by simpa using hr
      obtain ⟨_, o, ho, _⟩ := mem_ready.1 hmem
      simp only [wpChainH, ho] at h
      obtain ⟨v, hy, h⟩ := h
      refine wpAnyH_take ho hs hf hr (fun c a w hh => ?_) hy hS (ih _ _ _ hok hS h)
      cases hd : o.dst with
      | none => rw [hd] at hh; exact hh
      | some d => rw [hd] at hh; exact hQ c d v a w hh
    | false =>
      simp only [chainOkH, Bool.and_eq_true, beq_iff_eq] at hok
      obtain ⟨hr, hok⟩ := hok
      refine wpAnyH_all hr (by simp) fun j hj => ?_
      obtain rfl : j = i := by simpa using hj
      have hmem : j ∈ Region.ready .any ops listed := by rw [hr]; simp
      obtain ⟨_, o, ho, _⟩ := mem_ready.1 hmem
      simp only [wpChainH, ho] at h
      have h := h (fun a' w' => S w' ∧ wpAnyH P .any ops Q S r.length (listed.setIfInBounds j true) a' w') (fun a' w' hS' h' => ⟨hS', ih _ a' w' hok hS' h'⟩)
      unfold wpOp
      simp only [ho]
      unfold wpList at h
      split at h
      · rename_i hw
        rw [if_pos hw]
        rcases h with h | ⟨h1, h2⟩
        · exact .inl (upon_list (fun a' w' h' => h') _ h)
        · exact .inr ⟨h1, h2⟩
      · rename_i hw
        rw [if_neg hw]
        exact h

/-- A REGION THAT DRAWS ITS ORDER, in the order of the chain. -/
theorem wp_region_chainH {id : Nat} {a : Act} {w : World} (S : World → Prop) (l : List (Bool × Nat)) (hm : P.follows .mixedOrders = true) (hs : Region.noSelect ops = true)
    (hok : (chainOkH ops l (Array.replicate ops.size false) && (l.length == ops.size)) = true) (hQ : ∀ c (d : Tmp) v a w, Q (.panic c) (Act.put a (some d) v) w → Q (.panic c) a w)
    (hS : S w.drew) (h : wpChainH P ops Q S l a w.drew) : (Code.region id ops true).wp P Q a w := by
  simp only [Bool.and_eq_true, beq_iff_eq] at hok
  refine wp_region_held (S := S) hm ?_
  rw [← hok.2]
  exact any_of_chainH hs hQ l _ a _ (by rw [hok.2]; exact hok.1) hS h

theorem chainH_alone {i : Nat} {r : List (Bool × Nat)} {o : Oper} {a : Act} {w : World} (ho : ops[i]? = some o)
    (h : ∀ K : Act → World → Prop, Hid (∀ a w, S w → wpChainH P ops Q S r a w → K a w) → wpList P ops (Exit.then K Q) [o] a w) : wpChainH P ops Q S ((false, i) :: r) a w := by
  simp only [wpChainH, ho]
  exact fun K hK => h K hK
theorem chainH_nil {a : Act} {w : World} (h : Q .normal a w) : wpChainH P ops Q S [] a w := h
theorem chainH_take {i : Nat} {r : List (Bool × Nat)} {o : Oper} {v : Value} {a : Act} {w : World} (ho : ops[i]? = some o) (hw : Region.wanted o (yielded ops a.tmps) = true)
    (hy : ∀ w, S w → (execOp a.eval o).run P w = .ok (.value v) w) (h : wpChainH P ops Q S r (a.put o.dst v) w) : wpChainH P ops Q S ((true, i) :: r) a w := by
  simp only [wpChainH, ho]
  exact ⟨v, Or.inl ⟨hw, hy⟩, h⟩
theorem chainH_skip {i : Nat} {r : List (Bool × Nat)} {o : Oper} {a : Act} {w : World} (ho : ops[i]? = some o) (hw : Region.wanted o (yielded ops a.tmps) = false)
    (h : wpChainH P ops Q S r (a.put o.dst undef) w) : wpChainH P ops Q S ((true, i) :: r) a w := by
  simp only [wpChainH, ho]
  exact ⟨undef, Or.inr ⟨hw, rfl⟩, h⟩
/-- The same of one that comes up alone, where its guard says no. -/
theorem chainH_pass {i : Nat} {r : List (Bool × Nat)} {o : Oper} {a : Act} {w : World} (ho : ops[i]? = some o) (hw : Region.wanted o (yielded ops a.tmps) = false) (hS : S w)
    (h : wpChainH P ops Q S r (a.put o.dst undef) w) : wpChainH P ops Q S ((false, i) :: r) a w := by
  simp only [wpChainH, ho]
  intro K hK
  unfold wpList
  rw [if_neg (by rw [hw]; simp)]
  exact hK _ _ hS h
end
/-! ### the steps, their closed facts filled -/
section
variable {P : Program} {ops : Array Oper} {Q : Exit → Act → World → Prop} {S : World → Prop}
theorem rgH {id : Nat} {a : Act} {w : World} (S : World → Prop) (l : List (Bool × Nat)) (hS : S w.drew) (h : wpChainH P ops Q S l a w.drew) (hm : P.follows .mixedOrders = true := by kernel_rfl) (hs : Region.noSelect ops = true := by kernel_rfl)
    (hok : (chainOkH ops l (Array.replicate ops.size false) && (l.length == ops.size)) = true := by kernel_rfl) (hQ : ∀ c (d : Tmp) v a w, Q (.panic c) (Act.put a (some d) v) w → Q (.panic c) a w := by exact fun _ _ _ _ _ h => h) : (Code.region id ops true).wp P Q a w := wp_region_chainH S l hm hs hok hQ hS h
theorem alH {i : Nat} {r : List (Bool × Nat)} {o : Oper} {a : Act} {w : World}
    (h : ∀ K : Act → World → Prop, Hid (∀ a w, S w → wpChainH P ops Q S r a w → K a w) → wpList P ops (Exit.then K Q) [o] a w) (ho : ops[i]? = some o := by simp only [List.getElem?_toArray, List.getElem?_cons_zero, List.getElem?_cons_succ] <;> rfl) : wpChainH P ops Q S ((false, i) :: r) a w := chainH_alone ho h
theorem stH {i : Nat} {r : List (Bool × Nat)} {o : Oper} {v : Value} {a a2 : Act} {w : World} (ho : ops[i]? = some o := by simp only [List.getElem?_toArray, List.getElem?_cons_zero, List.getElem?_cons_succ] <;> rfl) (hw : Region.wanted o (yielded ops a.tmps) = true := by rfl) (hy : ∀ w, S w → (execOp a.eval o).run P w = .ok (.value v) w := by intro w hS; go_simp <;> with_reducible rfl)
    (ha : a.put o.dst v = a2 := by simp only [Act.put, List.setIfInBounds_toArray, List.set_cons_zero, List.set_cons_succ] <;> rfl) (h : wpChainH P ops Q S r a2 w) : wpChainH P ops Q S ((true, i) :: r) a w := chainH_take ho hw hy (ha ▸ h)
theorem skH {i : Nat} {r : List (Bool × Nat)} {o : Oper} {a a2 : Act} {w : World} (ho : ops[i]? = some o := by simp only [List.getElem?_toArray, List.getElem?_cons_zero, List.getElem?_cons_succ] <;> rfl) (hw : Region.wanted o (yielded ops a.tmps) = false := by rfl) (ha : a.put o.dst undef = a2 := by simp only [Act.put, List.setIfInBounds_toArray, List.set_cons_zero, List.set_cons_succ] <;> rfl) (h : wpChainH P ops Q S r a2 w) : wpChainH P ops Q S ((true, i) :: r) a w := chainH_skip ho hw (ha ▸ h)
theorem paH {i : Nat} {r : List (Bool × Nat)} {o : Oper} {a a2 : Act} {w : World} (hS : S w) (ho : ops[i]? = some o := by simp only [List.getElem?_toArray, List.getElem?_cons_zero, List.getElem?_cons_succ] <;> rfl) (hw : Region.wanted o (yielded ops a.tmps) = false := by rfl) (ha : a.put o.dst undef = a2 := by simp only [Act.put, List.setIfInBounds_toArray, List.set_cons_zero, List.set_cons_succ] <;> rfl) (h : wpChainH P ops Q S r a2 w) : wpChainH P ops Q S ((false, i) :: r) a w := chainH_pass ho hw hS (ha ▸ h)
end
end
section
open Go.ChangeShapes Go.WideShapes Go.ChangeAt Go.RowKit
theorem rightC_pen (c : Cel) (h : rightN c.p = false) : rightC c = false := by unfold rightC; rw [h]; rfl
theorem rightC_half (r m n : Int) (d f g b : Nat) (h : rightN ⟨f, g, b⟩ = true) (h0 : d = 0) : rightC ⟨r, m, n, d, ⟨f, g, b⟩⟩ = decide (r = 0 ∧ m = 0 ∧ n = 0) := by unfold rightC; simp only [h, Bool.true_and]; rw [if_pos h0]
theorem rightC_bears (r m n : Int) (d f g b : Nat) (h : rightN ⟨f, g, b⟩ = true) (h0 : d = 1 ∨ d = 2) : rightC ⟨r, m, n, d, ⟨f, g, b⟩⟩ = (decide (wOf r = d) && marksC m n) := by
  unfold rightC; simp only [h, Bool.true_and]; rw [if_neg (by omega), if_pos]; unfold bearsC; simpa using h0
theorem rightC_more (r m n : Int) (d f g b : Nat) (h0 : ¬ d = 0) (h1 : ¬ d = 1) (h2 : ¬ d = 2) : rightC ⟨r, m, n, d, ⟨f, g, b⟩⟩ = false := by
  unfold rightC; rw [if_neg h0, if_neg]; simp; unfold bearsC; simp [h1, h2]
theorem one_new (w : World) (t : TypeId) (l : List Value) : Below w.heap.size w (w.alloc (.cells l.toArray t)) := (Below.refl _ _).alloc (Nat.le_refl _) _
theorem cright_any (r m n : Int) (d f g b : Nat) (hd : d < 256) (w : World) (hS : Spans w) : Calls Tryz.prog 54 #[.agg #[.int .i32 r, .int .i32 m, .int .i32 n, .int .u8 (d : Int), .int .u8 (f : Int), .int .u8 (g : Int), .int .u8 (b : Int)]] w (Said (rightC ⟨r, m, n, d, ⟨f, g, b⟩⟩) w) := by
  obtain ⟨W0, hW0⟩ : ∃ W0, w.alloc (.cells #[.int .i32 r, .int .i32 m, .int .i32 n, .int .u8 (d : Int), .int .u8 (f : Int), .int .u8 (g : Int), .int .u8 (b : Int)] 105) = W0 := ⟨_, rfl⟩
  have HS : Hid (Spans W0) := by unfold Hid; rw [← hW0]; exact hS.alloc _
  have HB : Hid (Below w.heap.size w W0) := by unfold Hid; rw [← hW0]; exact one_new w _ [.int .i32 r, .int .i32 m, .int .i32 n, .int .u8 (d : Int), .int .u8 (f : Int), .int .u8 (g : Int), .int .u8 (b : Int)]
  have HC : Hid (Whole W0 w.heap.size 105 [.int .i32 r, .int .i32 m, .int .i32 n, .int .u8 (d : Int), .int .u8 (f : Int), .int .u8 (g : Int), .int .u8 (b : Int)]) := by unfold Hid; rw [← hW0]; exact Whole.new w 105 [.int .i32 r, .int .i32 m, .int .i32 n, .int .u8 (d : Int), .int .u8 (f : Int), .int .u8 (g : Int), .int .u8 (b : Int)]
  have HW0 := hide hW0
  clear hS hW0
  have hd1 : (0 : Int) ≤ (d : Int) := by omega
  have hd2 : (d : Int) ≤ 255 := by omega
  have eC := eqlCell
  cases hp : rightN ⟨f, g, b⟩
  case false =>
    have E := hide (rightC_pen ⟨r, m, n, d, ⟨f, g, b⟩⟩ hp)
    have HP := hide hp
    clear hp
    go_enter Tryz.func54, Tryz.ntmps54
    go_wp2_with fail
    rw [HW0.out]
    refine (right_any f g b _).mono ?_
    rintro e w1 ⟨rfl, hb1⟩
    rw [HP.out]
    have HC1 := hide (HC.out.later hb1)
    have HS1 := hide (HS.out.below hb1)
    have HB1 := hide (HB.out.trans (hb1.mono HB.out.size))
    obtain ⟨c0, c1, c2, c3, c4, c5, c6, cz⟩ := cells7 HC1.out
    clear hb1 cz
    go_wp2
    go_ret
    exact ⟨ret_bool E.out.symm, HB1.out⟩
  case true =>
    have HP := hide hp
    by_cases h0 : d = 0
    · have E := hide (rightC_half r m n d f g b hp h0)
      have e0 : ((d : Int) == 0) = true := by simp; omega
      have HD0 := hide h0
      clear hp h0
      go_enter Tryz.func54, Tryz.ntmps54
      go_wp2_with fail
      rw [HW0.out]
      refine (right_any f g b _).mono ?_
      rintro e w1 ⟨rfl, hb1⟩
      rw [HP.out]
      have HC1 := hide (HC.out.later hb1)
      have HS1 := hide (HS.out.below hb1)
      have HB1 := hide (HB.out.trans (hb1.mono HB.out.size))
      obtain ⟨c0, c1, c2, c3, c4, c5, c6, cz⟩ := cells7 HC1.out
      clear hb1 cz
      go_wp2
      refine rgH (fun w' => Below w1.heap.size w1 w') [(true, 0), (false, 1), (false, 2), (false, 3), (false, 4)] ((Below.refl _ _).drewN 1) ?_
      refine stH (hy := fun w hS => by obtain ⟨a0, a1, a2, a3, a4, a5, a6, -⟩ := cells7 (HC1.out.later hS); go_simp <;> with_reducible rfl) (h := ?_)
      refine alH fun K hK => ?_
      go_wp2
      refine hK.out _ _ ((Below.refl _ _).drewN 1) ?_
      clear hK K
      refine alH fun K hK => ?_
      go_wp2_with fail
      refine (rest_any r m n d f g b _).mono ?_
      rintro e w2 ⟨rfl, hb⟩
      have Bw2 : Below w1.heap.size w1 w2 := ((Below.refl _ _).drewN 1).trans hb
      clear hb
      go_wp2
      refine hK.out _ _ Bw2 ?_
      clear hK K
      refine alH fun K hK => ?_
      go_wp2
      refine hK.out _ _ Bw2 ?_
      clear hK K
      refine alH fun K hK => ?_
      go_wp2
      refine hK.out _ _ Bw2 ?_
      clear hK K
      refine chainH_nil ?_
      go_wp2
      go_ret
      exact ⟨ret_bool (by rw [E.out, eqC_iff, HD0.out]; simp [restC]), HB1.out.trans (Bw2.mono HB1.out.size)⟩
    · have e0 : ((d : Int) == 0) = false := by simp; omega
      by_cases h1 : d = 1
      · have E := hide (rightC_bears r m n d f g b hp (.inl h1))
        have e1 : ((d : Int) == 1) = true := by simp; omega
        obtain ⟨P1, hP1⟩ : ∃ P1, wOf r = P1 := ⟨_, rfl⟩
        have HX := hide hP1
        by_cases hq : P1 = d
        · have hqq : (P1 == (d : Int)) = true := by simpa using hq
          have E2 : Hid (rightC ⟨r, m, n, d, ⟨f, g, b⟩⟩ = marksC m n) := by unfold Hid; rw [E.out, HX.out, decide_eq_true hq]; rfl
          clear hp hP1 hq h0 h1
          go_enter Tryz.func54, Tryz.ntmps54
          go_wp2_with fail
          rw [HW0.out]
          refine (right_any f g b _).mono ?_
          rintro e w1 ⟨rfl, hb1⟩
          rw [HP.out]
          have HC1 := hide (HC.out.later hb1)
          have HS1 := hide (HS.out.below hb1)
          have HB1 := hide (HB.out.trans (hb1.mono HB.out.size))
          obtain ⟨c0, c1, c2, c3, c4, c5, c6, cz⟩ := cells7 HC1.out
          clear hb1 cz
          go_wp2
          refine rgH (fun w' => Below w1.heap.size w1 w') [(true, 0), (true, 3), (true, 1), (true, 4), (true, 5), (false, 2), (false, 6), (false, 7), (false, 8), (false, 9), (false, 10), (false, 11), (false, 12)] ((Below.refl _ _).drewN 1) ?_
          refine stH (h := ?_)
          refine stH (h := ?_)
          refine stH (hy := fun w hS => by obtain ⟨a0, a1, a2, a3, a4, a5, a6, -⟩ := cells7 (HC1.out.later hS); go_simp <;> with_reducible rfl) (h := ?_)
          refine stH (hy := fun w hS => by obtain ⟨a0, a1, a2, a3, a4, a5, a6, -⟩ := cells7 (HC1.out.later hS); go_simp <;> with_reducible rfl) (h := ?_)
          refine stH (h := ?_)
          refine alH fun K hK => ?_
          go_wp2_with fail
          refine (of_any r _ (HS1.out.drewN 1)).mono ?_
          rintro e w2 ⟨rfl, hb⟩
          rw [HX.out]
          have Bw2 : Below w1.heap.size w1 w2 := ((Below.refl _ _).drewN 1).trans hb
          clear hb
          obtain ⟨i0, i1, i2, i3, i4, i5, i6, -⟩ := cells7 (HC1.out.later Bw2)
          go_wp2
          refine hK.out _ _ Bw2 ?_
          clear hK K
          refine alH fun K hK => ?_
          go_wp2
          refine hK.out _ _ Bw2 ?_
          clear hK K
          refine alH fun K hK => ?_
          go_wp2
          refine hK.out _ _ Bw2 ?_
          clear hK K
          refine alH fun K hK => ?_
          go_wp2
          refine hK.out _ _ Bw2 ?_
          clear hK K
          refine alH fun K hK => ?_
          go_wp2
          refine hK.out _ _ Bw2 ?_
          clear hK K
          refine alH fun K hK => ?_
          go_wp2_with fail
          refine (rmarks_any m n _ (HS1.out.below Bw2)).mono ?_
          rintro e w3 ⟨rfl, hb⟩
          have Bw3 : Below w1.heap.size w1 w3 := Bw2.trans (hb.mono Bw2.size)
          clear hb
          go_wp2
          refine hK.out _ _ Bw3 ?_
          clear hK K
          refine alH fun K hK => ?_
          go_wp2
          refine hK.out _ _ Bw3 ?_
          clear hK K
          refine alH fun K hK => ?_
          go_wp2
          refine hK.out _ _ Bw3 ?_
          clear hK K
          refine chainH_nil ?_
          go_wp2
          go_ret
          exact ⟨ret_bool E2.out.symm, HB1.out.trans (Bw3.mono HB1.out.size)⟩
        · have hqq : (P1 == (d : Int)) = false := by simpa using hq
          have E2 : Hid (rightC ⟨r, m, n, d, ⟨f, g, b⟩⟩ = false) := by unfold Hid; rw [E.out, HX.out, decide_eq_false hq]; rfl
          clear hp hP1 hq h0 h1
          go_enter Tryz.func54, Tryz.ntmps54
          go_wp2_with fail
          rw [HW0.out]
          refine (right_any f g b _).mono ?_
          rintro e w1 ⟨rfl, hb1⟩
          rw [HP.out]
          have HC1 := hide (HC.out.later hb1)
          have HS1 := hide (HS.out.below hb1)
          have HB1 := hide (HB.out.trans (hb1.mono HB.out.size))
          obtain ⟨c0, c1, c2, c3, c4, c5, c6, cz⟩ := cells7 HC1.out
          clear hb1 cz
          go_wp2
          refine rgH (fun w' => Below w1.heap.size w1 w') [(true, 0), (true, 3), (true, 1), (true, 4), (true, 5), (false, 2), (false, 6), (false, 7), (false, 8), (false, 9), (false, 10), (false, 11), (false, 12)] ((Below.refl _ _).drewN 1) ?_
          refine stH (h := ?_)
          refine stH (h := ?_)
          refine stH (hy := fun w hS => by obtain ⟨a0, a1, a2, a3, a4, a5, a6, -⟩ := cells7 (HC1.out.later hS); go_simp <;> with_reducible rfl) (h := ?_)
          refine stH (hy := fun w hS => by obtain ⟨a0, a1, a2, a3, a4, a5, a6, -⟩ := cells7 (HC1.out.later hS); go_simp <;> with_reducible rfl) (h := ?_)
          refine stH (h := ?_)
          refine alH fun K hK => ?_
          go_wp2_with fail
          refine (of_any r _ (HS1.out.drewN 1)).mono ?_
          rintro e w2 ⟨rfl, hb⟩
          rw [HX.out]
          have Bw2 : Below w1.heap.size w1 w2 := ((Below.refl _ _).drewN 1).trans hb
          clear hb
          obtain ⟨i0, i1, i2, i3, i4, i5, i6, -⟩ := cells7 (HC1.out.later Bw2)
          go_wp2
          refine hK.out _ _ Bw2 ?_
          clear hK K
          refine alH fun K hK => ?_
          go_wp2
          refine hK.out _ _ Bw2 ?_
          clear hK K
          refine alH fun K hK => ?_
          go_wp2
          refine hK.out _ _ Bw2 ?_
          clear hK K
          rw [hqq]
          refine paH Bw2 (h := ?_)
          refine paH Bw2 (h := ?_)
          refine paH Bw2 (h := ?_)
          refine alH fun K hK => ?_
          go_wp2
          refine hK.out _ _ Bw2 ?_
          clear hK K
          refine alH fun K hK => ?_
          go_wp2
          refine hK.out _ _ Bw2 ?_
          clear hK K
          refine chainH_nil ?_
          go_wp2
          go_ret
          exact ⟨ret_bool E2.out.symm, HB1.out.trans (Bw2.mono HB1.out.size)⟩
      · have e1 : ((d : Int) == 1) = false := by simp; omega
        by_cases h2 : d = 2
        · have E := hide (rightC_bears r m n d f g b hp (.inr h2))
          have e2 : ((d : Int) == 2) = true := by simp; omega
          obtain ⟨P1, hP1⟩ : ∃ P1, wOf r = P1 := ⟨_, rfl⟩
          have HX := hide hP1
          by_cases hq : P1 = d
          · have hqq : (P1 == (d : Int)) = true := by simpa using hq
            have E2 : Hid (rightC ⟨r, m, n, d, ⟨f, g, b⟩⟩ = marksC m n) := by unfold Hid; rw [E.out, HX.out, decide_eq_true hq]; rfl
            clear hp hP1 hq h0 h1 h2
            go_enter Tryz.func54, Tryz.ntmps54
            go_wp2_with fail
            rw [HW0.out]
            refine (right_any f g b _).mono ?_
            rintro e w1 ⟨rfl, hb1⟩
            rw [HP.out]
            have HC1 := hide (HC.out.later hb1)
            have HS1 := hide (HS.out.below hb1)
            have HB1 := hide (HB.out.trans (hb1.mono HB.out.size))
            obtain ⟨c0, c1, c2, c3, c4, c5, c6, cz⟩ := cells7 HC1.out
            clear hb1 cz
            go_wp2
            refine rgH (fun w' => Below w1.heap.size w1 w') [(true, 0), (true, 3), (true, 1), (true, 4), (true, 5), (false, 2), (false, 6), (false, 7), (false, 8), (false, 9), (false, 10), (false, 11), (false, 12)] ((Below.refl _ _).drewN 1) ?_
            refine stH (h := ?_)
            refine stH (h := ?_)
            refine stH (hy := fun w hS => by obtain ⟨a0, a1, a2, a3, a4, a5, a6, -⟩ := cells7 (HC1.out.later hS); go_simp <;> with_reducible rfl) (h := ?_)
            refine stH (hy := fun w hS => by obtain ⟨a0, a1, a2, a3, a4, a5, a6, -⟩ := cells7 (HC1.out.later hS); go_simp <;> with_reducible rfl) (h := ?_)
            refine stH (h := ?_)
            refine alH fun K hK => ?_
            go_wp2_with fail
            refine (of_any r _ (HS1.out.drewN 1)).mono ?_
            rintro e w2 ⟨rfl, hb⟩
            rw [HX.out]
            have Bw2 : Below w1.heap.size w1 w2 := ((Below.refl _ _).drewN 1).trans hb
            clear hb
            obtain ⟨i0, i1, i2, i3, i4, i5, i6, -⟩ := cells7 (HC1.out.later Bw2)
            go_wp2
            refine hK.out _ _ Bw2 ?_
            clear hK K
            refine alH fun K hK => ?_
            go_wp2
            refine hK.out _ _ Bw2 ?_
            clear hK K
            refine alH fun K hK => ?_
            go_wp2
            refine hK.out _ _ Bw2 ?_
            clear hK K
            refine alH fun K hK => ?_
            go_wp2
            refine hK.out _ _ Bw2 ?_
            clear hK K
            refine alH fun K hK => ?_
            go_wp2
            refine hK.out _ _ Bw2 ?_
            clear hK K
            refine alH fun K hK => ?_
            go_wp2_with fail
            refine (rmarks_any m n _ (HS1.out.below Bw2)).mono ?_
            rintro e w3 ⟨rfl, hb⟩
            have Bw3 : Below w1.heap.size w1 w3 := Bw2.trans (hb.mono Bw2.size)
            clear hb
            go_wp2
            refine hK.out _ _ Bw3 ?_
            clear hK K
            refine alH fun K hK => ?_
            go_wp2
            refine hK.out _ _ Bw3 ?_
            clear hK K
            refine alH fun K hK => ?_
            go_wp2
            refine hK.out _ _ Bw3 ?_
            clear hK K
            refine chainH_nil ?_
            go_wp2
            go_ret
            exact ⟨ret_bool E2.out.symm, HB1.out.trans (Bw3.mono HB1.out.size)⟩
          · have hqq : (P1 == (d : Int)) = false := by simpa using hq
            have E2 : Hid (rightC ⟨r, m, n, d, ⟨f, g, b⟩⟩ = false) := by unfold Hid; rw [E.out, HX.out, decide_eq_false hq]; rfl
            clear hp hP1 hq h0 h1 h2
            go_enter Tryz.func54, Tryz.ntmps54
            go_wp2_with fail
            rw [HW0.out]
            refine (right_any f g b _).mono ?_
            rintro e w1 ⟨rfl, hb1⟩
            rw [HP.out]
            have HC1 := hide (HC.out.later hb1)
            have HS1 := hide (HS.out.below hb1)
            have HB1 := hide (HB.out.trans (hb1.mono HB.out.size))
            obtain ⟨c0, c1, c2, c3, c4, c5, c6, cz⟩ := cells7 HC1.out
            clear hb1 cz
            go_wp2
            refine rgH (fun w' => Below w1.heap.size w1 w') [(true, 0), (true, 3), (true, 1), (true, 4), (true, 5), (false, 2), (false, 6), (false, 7), (false, 8), (false, 9), (false, 10), (false, 11), (false, 12)] ((Below.refl _ _).drewN 1) ?_
            refine stH (h := ?_)
            refine stH (h := ?_)
            refine stH (hy := fun w hS => by obtain ⟨a0, a1, a2, a3, a4, a5, a6, -⟩ := cells7 (HC1.out.later hS); go_simp <;> with_reducible rfl) (h := ?_)
            refine stH (hy := fun w hS => by obtain ⟨a0, a1, a2, a3, a4, a5, a6, -⟩ := cells7 (HC1.out.later hS); go_simp <;> with_reducible rfl) (h := ?_)
            refine stH (h := ?_)
            refine alH fun K hK => ?_
            go_wp2_with fail
            refine (of_any r _ (HS1.out.drewN 1)).mono ?_
            rintro e w2 ⟨rfl, hb⟩
            rw [HX.out]
            have Bw2 : Below w1.heap.size w1 w2 := ((Below.refl _ _).drewN 1).trans hb
            clear hb
            obtain ⟨i0, i1, i2, i3, i4, i5, i6, -⟩ := cells7 (HC1.out.later Bw2)
            go_wp2
            refine hK.out _ _ Bw2 ?_
            clear hK K
            refine alH fun K hK => ?_
            go_wp2
            refine hK.out _ _ Bw2 ?_
            clear hK K
            refine alH fun K hK => ?_
            go_wp2
            refine hK.out _ _ Bw2 ?_
            clear hK K
            rw [hqq]
            refine paH Bw2 (h := ?_)
            refine paH Bw2 (h := ?_)
            refine paH Bw2 (h := ?_)
            refine alH fun K hK => ?_
            go_wp2
            refine hK.out _ _ Bw2 ?_
            clear hK K
            refine alH fun K hK => ?_
            go_wp2
            refine hK.out _ _ Bw2 ?_
            clear hK K
            refine chainH_nil ?_
            go_wp2
            go_ret
            exact ⟨ret_bool E2.out.symm, HB1.out.trans (Bw2.mono HB1.out.size)⟩
        · have e2 : ((d : Int) == 2) = false := by simp; omega
          have E := hide (rightC_more r m n d f g b h0 h1 h2)
          clear hp h0 h1 h2
          go_enter Tryz.func54, Tryz.ntmps54
          go_wp2_with fail
          rw [HW0.out]
          refine (right_any f g b _).mono ?_
          rintro e w1 ⟨rfl, hb1⟩
          rw [HP.out]
          have HC1 := hide (HC.out.later hb1)
          have HS1 := hide (HS.out.below hb1)
          have HB1 := hide (HB.out.trans (hb1.mono HB.out.size))
          obtain ⟨c0, c1, c2, c3, c4, c5, c6, cz⟩ := cells7 HC1.out
          clear hb1 cz
          go_wp2
          go_ret
          exact ⟨ret_bool E.out.symm, HB1.out⟩
theorem rcright_any (r m n : Int) (d f g b : Nat) (hd : d < 256) (w : World) : Calls Tryz.prog 49 #[.agg #[.int .i64 r, .int .i64 m, .int .i64 n, .int .u8 (d : Int), .int .u8 (f : Int), .int .u8 (g : Int), .int .u8 (b : Int)]] w (Said (rightC ⟨r, m, n, d, ⟨f, g, b⟩⟩) w) := by
  obtain ⟨W0, hW0⟩ : ∃ W0, w.alloc (.cells #[.int .i64 r, .int .i64 m, .int .i64 n, .int .u8 (d : Int), .int .u8 (f : Int), .int .u8 (g : Int), .int .u8 (b : Int)] 100) = W0 := ⟨_, rfl⟩
  have HB : Hid (Below w.heap.size w W0) := by unfold Hid; rw [← hW0]; exact one_new w _ [.int .i64 r, .int .i64 m, .int .i64 n, .int .u8 (d : Int), .int .u8 (f : Int), .int .u8 (g : Int), .int .u8 (b : Int)]
  have HC : Hid (Whole W0 w.heap.size 100 [.int .i64 r, .int .i64 m, .int .i64 n, .int .u8 (d : Int), .int .u8 (f : Int), .int .u8 (g : Int), .int .u8 (b : Int)]) := by unfold Hid; rw [← hW0]; exact Whole.new w 100 [.int .i64 r, .int .i64 m, .int .i64 n, .int .u8 (d : Int), .int .u8 (f : Int), .int .u8 (g : Int), .int .u8 (b : Int)]
  have HW0 := hide hW0
  clear hW0
  have hd1 : (0 : Int) ≤ (d : Int) := by omega
  have hd2 : (d : Int) ≤ 255 := by omega
  cases hp : rightN ⟨f, g, b⟩
  case false =>
    have E := hide (rightC_pen ⟨r, m, n, d, ⟨f, g, b⟩⟩ hp)
    have HP := hide hp
    clear hp
    go_enter Tryz.func49, Tryz.ntmps49
    go_wp2_with fail
    rw [HW0.out]
    refine (rright_any f g b _).mono ?_
    rintro e w1 ⟨rfl, hb1⟩
    rw [HP.out]
    have HC1 := hide (HC.out.later hb1)
    have HB1 := hide (HB.out.trans (hb1.mono HB.out.size))
    obtain ⟨c0, c1, c2, c3, c4, c5, c6, cz⟩ := cells7 HC1.out
    clear hb1 cz
    go_wp2
    go_ret
    exact ⟨ret_bool E.out.symm, HB1.out⟩
  case true =>
    have HP := hide hp
    by_cases h3 : (2 : Int) < (d : Int)
    · have E := hide (rightC_more r m n d f g b (by omega) (by omega) (by omega))
      clear hp
      go_enter Tryz.func49, Tryz.ntmps49
      go_wp2_with fail
      rw [HW0.out]
      refine (rright_any f g b _).mono ?_
      rintro e w1 ⟨rfl, hb1⟩
      rw [HP.out]
      have HC1 := hide (HC.out.later hb1)
      have HB1 := hide (HB.out.trans (hb1.mono HB.out.size))
      obtain ⟨c0, c1, c2, c3, c4, c5, c6, cz⟩ := cells7 HC1.out
      clear hb1 cz
      go_wp2
      go_ret
      exact ⟨ret_bool E.out.symm, HB1.out⟩
    · by_cases h0 : d = 0
      · have E := hide (rightC_half r m n d f g b hp h0)
        have e0 : ((d : Int) == 0) = true := by simp; omega
        by_cases hr : r = 0
        · by_cases hm : m = 0
          · by_cases hn : n = 0
            · have E2 : Hid (rightC ⟨r, m, n, d, ⟨f, g, b⟩⟩ = true) := by unfold Hid; rw [E.out]; simp [hr, hm, hn]
              have q1 : (r == 0) = true := by simpa using hr
              have q2 : (m == 0) = true := by simpa using hm
              have q3 : (n == 0) = true := by simpa using hn
              clear hp h0 hr hm hn
              go_enter Tryz.func49, Tryz.ntmps49
              go_wp2_with fail
              rw [HW0.out]
              refine (rright_any f g b _).mono ?_
              rintro e w1 ⟨rfl, hb1⟩
              rw [HP.out]
              have HC1 := hide (HC.out.later hb1)
              have HB1 := hide (HB.out.trans (hb1.mono HB.out.size))
              obtain ⟨c0, c1, c2, c3, c4, c5, c6, cz⟩ := cells7 HC1.out
              clear hb1 cz
              go_wp2
              go_ret
              exact ⟨ret_bool E2.out.symm, HB1.out⟩
            · have E2 : Hid (rightC ⟨r, m, n, d, ⟨f, g, b⟩⟩ = false) := by unfold Hid; rw [E.out]; simp [hr, hm, hn]
              have q1 : (r == 0) = true := by simpa using hr
              have q2 : (m == 0) = true := by simpa using hm
              have q3 : (n == 0) = false := by simpa using hn
              clear hp h0 hr hm hn
              go_enter Tryz.func49, Tryz.ntmps49
              go_wp2_with fail
              rw [HW0.out]
              refine (rright_any f g b _).mono ?_
              rintro e w1 ⟨rfl, hb1⟩
              rw [HP.out]
              have HC1 := hide (HC.out.later hb1)
              have HB1 := hide (HB.out.trans (hb1.mono HB.out.size))
              obtain ⟨c0, c1, c2, c3, c4, c5, c6, cz⟩ := cells7 HC1.out
              clear hb1 cz
              go_wp2
              go_ret
              exact ⟨ret_bool E2.out.symm, HB1.out⟩
          · have E2 : Hid (rightC ⟨r, m, n, d, ⟨f, g, b⟩⟩ = false) := by unfold Hid; rw [E.out]; simp [hr, hm]
            have q1 : (r == 0) = true := by simpa using hr
            have q2 : (m == 0) = false := by simpa using hm
            clear hp h0 hr hm
            go_enter Tryz.func49, Tryz.ntmps49
            go_wp2_with fail
            rw [HW0.out]
            refine (rright_any f g b _).mono ?_
            rintro e w1 ⟨rfl, hb1⟩
            rw [HP.out]
            have HC1 := hide (HC.out.later hb1)
            have HB1 := hide (HB.out.trans (hb1.mono HB.out.size))
            obtain ⟨c0, c1, c2, c3, c4, c5, c6, cz⟩ := cells7 HC1.out
            clear hb1 cz
            go_wp2
            go_ret
            exact ⟨ret_bool E2.out.symm, HB1.out⟩
        · have E2 : Hid (rightC ⟨r, m, n, d, ⟨f, g, b⟩⟩ = false) := by unfold Hid; rw [E.out]; simp [hr]
          have q1 : (r == 0) = false := by simpa using hr
          clear hp h0 hr
          go_enter Tryz.func49, Tryz.ntmps49
          go_wp2_with fail
          rw [HW0.out]
          refine (rright_any f g b _).mono ?_
          rintro e w1 ⟨rfl, hb1⟩
          rw [HP.out]
          have HC1 := hide (HC.out.later hb1)
          have HB1 := hide (HB.out.trans (hb1.mono HB.out.size))
          obtain ⟨c0, c1, c2, c3, c4, c5, c6, cz⟩ := cells7 HC1.out
          clear hb1 cz
          go_wp2
          go_ret
          exact ⟨ret_bool E2.out.symm, HB1.out⟩
      · have e0 : ((d : Int) == 0) = false := by simp; omega
        have E := hide (rightC_bears r m n d f g b hp (by omega))
        obtain ⟨P1, hP1⟩ : ∃ P1, wOf r = P1 := ⟨_, rfl⟩
        have HX := hide hP1
        by_cases hq : P1 = d
        · have hqq : (P1 != (d : Int)) = false := by simpa using hq
          by_cases hm : m = 0
          · have q2 : (m == 0) = true := by simpa using hm
            by_cases hn : n = 0
            · have E3 : Hid (rightC ⟨r, m, n, d, ⟨f, g, b⟩⟩ = true) := by unfold Hid; rw [E.out, HX.out, decide_eq_true hq]; unfold marksC; simp [hm, hn]
              have q3 : (n == 0) = true := by simpa using hn
              clear hp hP1 hq h0 hm hn
              go_enter Tryz.func49, Tryz.ntmps49
              go_wp2_with fail
              rw [HW0.out]
              refine (rright_any f g b _).mono ?_
              rintro e w1 ⟨rfl, hb1⟩
              rw [HP.out]
              have HC1 := hide (HC.out.later hb1)
              have HB1 := hide (HB.out.trans (hb1.mono HB.out.size))
              obtain ⟨c0, c1, c2, c3, c4, c5, c6, cz⟩ := cells7 HC1.out
              clear hb1 cz
              go_wp2
              refine rgH (fun w' => Below w1.heap.size w1 w') [(true, 0), (true, 3), (true, 1), (true, 4), (true, 5), (false, 2), (false, 6)] ((Below.refl _ _).drewN 1) ?_
              refine stH (h := ?_)
              refine stH (h := ?_)
              refine stH (hy := fun w hS => by obtain ⟨a0, a1, a2, a3, a4, a5, a6, -⟩ := cells7 (HC1.out.later hS); go_simp <;> with_reducible rfl) (h := ?_)
              refine stH (hy := fun w hS => by obtain ⟨a0, a1, a2, a3, a4, a5, a6, -⟩ := cells7 (HC1.out.later hS); go_simp <;> with_reducible rfl) (h := ?_)
              refine stH (h := ?_)
              refine alH fun K hK => ?_
              go_wp2_with fail
              refine (rof_any r _).mono ?_
              rintro e w2 ⟨rfl, hb⟩
              rw [HX.out]
              have Bw2 : Below w1.heap.size w1 w2 := ((Below.refl _ _).drewN 1).trans hb
              clear hb
              go_wp2
              refine hK.out _ _ Bw2 ?_
              clear hK K
              refine alH fun K hK => ?_
              go_wp2
              refine hK.out _ _ Bw2 ?_
              clear hK K
              refine chainH_nil ?_
              replace HB1 := hide (HB1.out.trans (Bw2.mono HB1.out.size))
              replace HC1 := hide (HC1.out.later Bw2)
              clear Bw2 c0 c1 c2 c3 c4 c5 c6
              obtain ⟨c0, c1, c2, c3, c4, c5, c6, cz⟩ := cells7 HC1.out
              clear cz
              go_wp2
              go_quiet (fail)
              have HB2 := hide (HB1.out.drewN nq)
              go_wp2
              go_ret
              exact ⟨ret_bool E3.out.symm, HB2.out⟩
            · have E3 : Hid (rightC ⟨r, m, n, d, ⟨f, g, b⟩⟩ = false) := by unfold Hid; rw [E.out, HX.out, decide_eq_true hq]; unfold marksC; simp [hm, hn]
              have q3 : (n == 0) = false := by simpa using hn
              have HM : Hid (wOf m = -1) := by unfold Hid; rw [hm]; exact wOf_zero
              clear hp hP1 hq h0 hm hn
              go_enter Tryz.func49, Tryz.ntmps49
              go_wp2_with fail
              rw [HW0.out]
              refine (rright_any f g b _).mono ?_
              rintro e w1 ⟨rfl, hb1⟩
              rw [HP.out]
              have HC1 := hide (HC.out.later hb1)
              have HB1 := hide (HB.out.trans (hb1.mono HB.out.size))
              obtain ⟨c0, c1, c2, c3, c4, c5, c6, cz⟩ := cells7 HC1.out
              clear hb1 cz
              go_wp2
              refine rgH (fun w' => Below w1.heap.size w1 w') [(true, 0), (true, 3), (true, 1), (true, 4), (true, 5), (false, 2), (false, 6)] ((Below.refl _ _).drewN 1) ?_
              refine stH (h := ?_)
              refine stH (h := ?_)
              refine stH (hy := fun w hS => by obtain ⟨a0, a1, a2, a3, a4, a5, a6, -⟩ := cells7 (HC1.out.later hS); go_simp <;> with_reducible rfl) (h := ?_)
              refine stH (hy := fun w hS => by obtain ⟨a0, a1, a2, a3, a4, a5, a6, -⟩ := cells7 (HC1.out.later hS); go_simp <;> with_reducible rfl) (h := ?_)
              refine stH (h := ?_)
              refine alH fun K hK => ?_
              go_wp2_with fail
              refine (rof_any r _).mono ?_
              rintro e w2 ⟨rfl, hb⟩
              rw [HX.out]
              have Bw2 : Below w1.heap.size w1 w2 := ((Below.refl _ _).drewN 1).trans hb
              clear hb
              go_wp2
              refine hK.out _ _ Bw2 ?_
              clear hK K
              refine alH fun K hK => ?_
              go_wp2
              refine hK.out _ _ Bw2 ?_
              clear hK K
              refine chainH_nil ?_
              replace HB1 := hide (HB1.out.trans (Bw2.mono HB1.out.size))
              replace HC1 := hide (HC1.out.later Bw2)
              clear Bw2 c0 c1 c2 c3 c4 c5 c6
              obtain ⟨c0, c1, c2, c3, c4, c5, c6, cz⟩ := cells7 HC1.out
              clear cz
              go_wp2
              go_quiet (fail)
              have HB2 := hide (HB1.out.drewN nq)
              go_wp2_with fail
              refine (rof_any m _).mono ?_
              rintro e w3 ⟨rfl, hb⟩
              rw [HM.out]
              have HB3 := hide (HB2.out.trans (hb.mono HB2.out.size))
              clear hb
              go_wp2
              go_ret
              exact ⟨ret_bool E3.out.symm, HB3.out⟩
          · have q2 : (m == 0) = false := by simpa using hm
            have q4 : (m != 0) = true := by simpa using hm
            obtain ⟨P2, hP2⟩ : ∃ P2, wOf m = P2 := ⟨_, rfl⟩
            have HM := hide hP2
            by_cases hz : P2 = 0
            · have q5 : (P2 == 0) = true := by simpa using hz
              by_cases hn : n = 0
              · have E3 : Hid (rightC ⟨r, m, n, d, ⟨f, g, b⟩⟩ = true) := by unfold Hid; rw [E.out, HX.out, decide_eq_true hq]; unfold marksC; simp [hm, hn, hP2, hz]
                have q3 : (n == 0) = true := by simpa using hn
                clear hp hP1 hq h0 hP2 hm hn hz
                go_enter Tryz.func49, Tryz.ntmps49
                go_wp2_with fail
                rw [HW0.out]
                refine (rright_any f g b _).mono ?_
                rintro e w1 ⟨rfl, hb1⟩
                rw [HP.out]
                have HC1 := hide (HC.out.later hb1)
                have HB1 := hide (HB.out.trans (hb1.mono HB.out.size))
                obtain ⟨c0, c1, c2, c3, c4, c5, c6, cz⟩ := cells7 HC1.out
                clear hb1 cz
                go_wp2
                refine rgH (fun w' => Below w1.heap.size w1 w') [(true, 0), (true, 3), (true, 1), (true, 4), (true, 5), (false, 2), (false, 6)] ((Below.refl _ _).drewN 1) ?_
                refine stH (h := ?_)
                refine stH (h := ?_)
                refine stH (hy := fun w hS => by obtain ⟨a0, a1, a2, a3, a4, a5, a6, -⟩ := cells7 (HC1.out.later hS); go_simp <;> with_reducible rfl) (h := ?_)
                refine stH (hy := fun w hS => by obtain ⟨a0, a1, a2, a3, a4, a5, a6, -⟩ := cells7 (HC1.out.later hS); go_simp <;> with_reducible rfl) (h := ?_)
                refine stH (h := ?_)
                refine alH fun K hK => ?_
                go_wp2_with fail
                refine (rof_any r _).mono ?_
                rintro e w2 ⟨rfl, hb⟩
                rw [HX.out]
                have Bw2 : Below w1.heap.size w1 w2 := ((Below.refl _ _).drewN 1).trans hb
                clear hb
                go_wp2
                refine hK.out _ _ Bw2 ?_
                clear hK K
                refine alH fun K hK => ?_
                go_wp2
                refine hK.out _ _ Bw2 ?_
                clear hK K
                refine chainH_nil ?_
                replace HB1 := hide (HB1.out.trans (Bw2.mono HB1.out.size))
                replace HC1 := hide (HC1.out.later Bw2)
                clear Bw2 c0 c1 c2 c3 c4 c5 c6
                obtain ⟨c0, c1, c2, c3, c4, c5, c6, cz⟩ := cells7 HC1.out
                clear cz
                go_wp2
                go_quiet (fail)
                have HB2 := hide (HB1.out.drewN nq)
                go_wp2_with fail
                refine (rof_any m _).mono ?_
                rintro e w3 ⟨rfl, hb⟩
                rw [HM.out]
                have HB3 := hide (HB2.out.trans (hb.mono HB2.out.size))
                clear hb
                go_wp2
                go_ret
                exact ⟨ret_bool E3.out.symm, HB3.out⟩
              · have q3 : (n == 0) = false := by simpa using hn
                obtain ⟨P3, hP3⟩ : ∃ P3, wOf n = P3 := ⟨_, rfl⟩
                have HN := hide hP3
                have E3 : Hid (rightC ⟨r, m, n, d, ⟨f, g, b⟩⟩ = (P3 == 0)) := by unfold Hid; rw [E.out, HX.out, decide_eq_true hq]; unfold marksC; simp [hm, hn, hP2, hz, hP3]; rfl
                clear hp hP1 hq h0 hP2 hP3 hm hn hz
                go_enter Tryz.func49, Tryz.ntmps49
                go_wp2_with fail
                rw [HW0.out]
                refine (rright_any f g b _).mono ?_
                rintro e w1 ⟨rfl, hb1⟩
                rw [HP.out]
                have HC1 := hide (HC.out.later hb1)
                have HB1 := hide (HB.out.trans (hb1.mono HB.out.size))
                obtain ⟨c0, c1, c2, c3, c4, c5, c6, cz⟩ := cells7 HC1.out
                clear hb1 cz
                go_wp2
                refine rgH (fun w' => Below w1.heap.size w1 w') [(true, 0), (true, 3), (true, 1), (true, 4), (true, 5), (false, 2), (false, 6)] ((Below.refl _ _).drewN 1) ?_
                refine stH (h := ?_)
                refine stH (h := ?_)
                refine stH (hy := fun w hS => by obtain ⟨a0, a1, a2, a3, a4, a5, a6, -⟩ := cells7 (HC1.out.later hS); go_simp <;> with_reducible rfl) (h := ?_)
                refine stH (hy := fun w hS => by obtain ⟨a0, a1, a2, a3, a4, a5, a6, -⟩ := cells7 (HC1.out.later hS); go_simp <;> with_reducible rfl) (h := ?_)
                refine stH (h := ?_)
                refine alH fun K hK => ?_
                go_wp2_with fail
                refine (rof_any r _).mono ?_
                rintro e w2 ⟨rfl, hb⟩
                rw [HX.out]
                have Bw2 : Below w1.heap.size w1 w2 := ((Below.refl _ _).drewN 1).trans hb
                clear hb
                go_wp2
                refine hK.out _ _ Bw2 ?_
                clear hK K
                refine alH fun K hK => ?_
                go_wp2
                refine hK.out _ _ Bw2 ?_
                clear hK K
                refine chainH_nil ?_
                replace HB1 := hide (HB1.out.trans (Bw2.mono HB1.out.size))
                replace HC1 := hide (HC1.out.later Bw2)
                clear Bw2 c0 c1 c2 c3 c4 c5 c6
                obtain ⟨c0, c1, c2, c3, c4, c5, c6, cz⟩ := cells7 HC1.out
                clear cz
                go_wp2
                go_quiet (fail)
                have HB2 := hide (HB1.out.drewN nq)
                go_wp2_with fail
                refine (rof_any m _).mono ?_
                rintro e w3 ⟨rfl, hb⟩
                rw [HM.out]
                have HB3 := hide (HB2.out.trans (hb.mono HB2.out.size))
                clear hb
                go_wp2_with fail
                refine (rof_any n _).mono ?_
                rintro e w4 ⟨rfl, hb⟩
                rw [HN.out]
                have HB4 := hide (HB3.out.trans (hb.mono HB3.out.size))
                clear hb
                go_wp2
                go_ret
                exact ⟨ret_bool E3.out.symm, HB4.out⟩
            · have q5 : (P2 == 0) = false := by simpa using hz
              have E3 : Hid (rightC ⟨r, m, n, d, ⟨f, g, b⟩⟩ = false) := by unfold Hid; rw [E.out, HX.out, decide_eq_true hq]; unfold marksC; simp [hm, hP2, hz]
              clear hp hP1 hq h0 hP2 hm hz
              go_enter Tryz.func49, Tryz.ntmps49
              go_wp2_with fail
              rw [HW0.out]
              refine (rright_any f g b _).mono ?_
              rintro e w1 ⟨rfl, hb1⟩
              rw [HP.out]
              have HC1 := hide (HC.out.later hb1)
              have HB1 := hide (HB.out.trans (hb1.mono HB.out.size))
              obtain ⟨c0, c1, c2, c3, c4, c5, c6, cz⟩ := cells7 HC1.out
              clear hb1 cz
              go_wp2
              refine rgH (fun w' => Below w1.heap.size w1 w') [(true, 0), (true, 3), (true, 1), (true, 4), (true, 5), (false, 2), (false, 6)] ((Below.refl _ _).drewN 1) ?_
              refine stH (h := ?_)
              refine stH (h := ?_)
              refine stH (hy := fun w hS => by obtain ⟨a0, a1, a2, a3, a4, a5, a6, -⟩ := cells7 (HC1.out.later hS); go_simp <;> with_reducible rfl) (h := ?_)
              refine stH (hy := fun w hS => by obtain ⟨a0, a1, a2, a3, a4, a5, a6, -⟩ := cells7 (HC1.out.later hS); go_simp <;> with_reducible rfl) (h := ?_)
              refine stH (h := ?_)
              refine alH fun K hK => ?_
              go_wp2_with fail
              refine (rof_any r _).mono ?_
              rintro e w2 ⟨rfl, hb⟩
              rw [HX.out]
              have Bw2 : Below w1.heap.size w1 w2 := ((Below.refl _ _).drewN 1).trans hb
              clear hb
              go_wp2
              refine hK.out _ _ Bw2 ?_
              clear hK K
              refine alH fun K hK => ?_
              go_wp2
              refine hK.out _ _ Bw2 ?_
              clear hK K
              refine chainH_nil ?_
              replace HB1 := hide (HB1.out.trans (Bw2.mono HB1.out.size))
              replace HC1 := hide (HC1.out.later Bw2)
              clear Bw2 c0 c1 c2 c3 c4 c5 c6
              obtain ⟨c0, c1, c2, c3, c4, c5, c6, cz⟩ := cells7 HC1.out
              clear cz
              go_wp2
              go_quiet (fail)
              have HB2 := hide (HB1.out.drewN nq)
              go_wp2_with fail
              refine (rof_any m _).mono ?_
              rintro e w3 ⟨rfl, hb⟩
              rw [HM.out]
              have HB3 := hide (HB2.out.trans (hb.mono HB2.out.size))
              clear hb
              go_wp2
              go_ret
              exact ⟨ret_bool E3.out.symm, HB3.out⟩
        · have hqq : (P1 != (d : Int)) = true := by simpa using hq
          have E2 : Hid (rightC ⟨r, m, n, d, ⟨f, g, b⟩⟩ = false) := by unfold Hid; rw [E.out, HX.out, decide_eq_false hq]; rfl
          clear hp hP1 hq h0
          go_enter Tryz.func49, Tryz.ntmps49
          go_wp2_with fail
          rw [HW0.out]
          refine (rright_any f g b _).mono ?_
          rintro e w1 ⟨rfl, hb1⟩
          rw [HP.out]
          have HC1 := hide (HC.out.later hb1)
          have HB1 := hide (HB.out.trans (hb1.mono HB.out.size))
          obtain ⟨c0, c1, c2, c3, c4, c5, c6, cz⟩ := cells7 HC1.out
          clear hb1 cz
          go_wp2
          refine rgH (fun w' => Below w1.heap.size w1 w') [(true, 0), (true, 3), (true, 1), (true, 4), (true, 5), (false, 2), (false, 6)] ((Below.refl _ _).drewN 1) ?_
          refine stH (h := ?_)
          refine stH (h := ?_)
          refine stH (hy := fun w hS => by obtain ⟨a0, a1, a2, a3, a4, a5, a6, -⟩ := cells7 (HC1.out.later hS); go_simp <;> with_reducible rfl) (h := ?_)
          refine stH (hy := fun w hS => by obtain ⟨a0, a1, a2, a3, a4, a5, a6, -⟩ := cells7 (HC1.out.later hS); go_simp <;> with_reducible rfl) (h := ?_)
          refine stH (h := ?_)
          refine alH fun K hK => ?_
          go_wp2_with fail
          refine (rof_any r _).mono ?_
          rintro e w2 ⟨rfl, hb⟩
          rw [HX.out]
          have Bw2 : Below w1.heap.size w1 w2 := ((Below.refl _ _).drewN 1).trans hb
          clear hb
          go_wp2
          refine hK.out _ _ Bw2 ?_
          clear hK K
          refine alH fun K hK => ?_
          go_wp2
          refine hK.out _ _ Bw2 ?_
          clear hK K
          refine chainH_nil ?_
          go_wp2
          go_ret
          exact ⟨ret_bool E2.out.symm, HB1.out.trans (Bw2.mono HB1.out.size)⟩
/-- A row of the call's own holds these numbers. -/
def Cl (te : TypeId) (k : IntKind) (B : Nat) (w : World) (x : Value) (z : List Int) : Prop := w.ownsRow B te 1 x z.length (z.map (Value.int k))

section
variable {te e : TypeId} {k : IntKind} {B : Nat} {w w' wr : World} {x v : Value} {z : List Int}
theorem Own.cl (h : Own te k B w wr x z) : Cl te k B wr x z := h.own
theorem Cl.less {C : Nat} (h : Cl te k B w x z) (hC : C ≤ B) : Cl te k C w x z := by
  refine ⟨h.1, ?_⟩
  rcases h.2 with h0 | ⟨g, cap, cur, hv, hB, h1⟩
  · exact .inl h0
  · exact .inr ⟨g, cap, cur, hv, Nat.le_trans hC hB, h1⟩
theorem Cl.keep (h : Cl te k B w x z) (hb : ∀ (g : Nat) (cur : Array Value), w.heap[g]? = some (Obj.cells cur te (0, 0)) → w'.heap[g]? = w.heap[g]?) : Cl te k B w' x z := by
  refine ⟨h.1, ?_⟩
  rcases h.2 with h0 | ⟨g, cap, cur, hv, hB, hh, h1⟩
  · exact .inl h0
  · exact .inr ⟨g, cap, cur, hv, hB, (hb g cur hh).trans hh, h1⟩
theorem Cl.later (h : Cl te k B w x z) (hb : Below w.heap.size w w') : Cl te k B w' x z := h.keep fun g cur hh => hb.block g (Array.getElem?_eq_some_iff.1 hh).1
theorem Cl.alloc (h : Cl te k B w x z) (o : Obj) : Cl te k B (w.alloc o) x z := h.keep fun g cur hh => Below.heap_alloc w o g (Array.getElem?_eq_some_iff.1 hh).1
theorem Cl.form (h : Cl te k B w x z) : ∃ A cap, x = .slice A z.length cap ∧ Ints k w A z ∧ z.length ≤ cap ∧ (A = none → cap = 0) ∧ cap ≤ maxLen :=
  Own.form2 (w := w) (B := min B w.heap.size) ⟨h.less (Nat.min_le_left _ _), Below.refl _ _, Nat.min_le_right _ _⟩
end

/-- A row of rows of the call's own (blocks from B on), all that lay below B being as it was. -/
structure Rws (e te : TypeId) (k : IntKind) (B : Nat) (w wr : World) (v : Value) (zss : List (List Int)) : Prop where
  row : ∃ xs : List Value, wr.ownsRow B e 1 v zss.length xs ∧ ∀ (i : Nat) (x : Value) (z : List Int), xs[i]? = some x → zss[i]? = some z → Cl te k B wr x z
  bel : Below B w wr
  le : B ≤ wr.heap.size

section
variable {te e : TypeId} {k : IntKind} {B : Nat} {w wr w1 : World} {v : Value} {zss : List (List Int)}
theorem Rws.start (hB : B ≤ w.heap.size) : Rws e te k B w w (.slice none 0 0) [] := ⟨⟨[], World.ownsRow_nil _ _ _ _, fun i x z h => by simp at h⟩, Below.refl _ _, hB⟩
theorem Rws.later (h : Rws e te k B w wr v zss) (hb : Below wr.heap.size wr w1) : Rws e te k B w w1 v zss := by
  obtain ⟨xs, ho, hc⟩ := h.row
  refine ⟨⟨xs, ⟨ho.1, ?_⟩, fun i x z h1 h2 => (hc i x z h1 h2).later hb⟩, h.bel.trans (hb.mono h.le), Nat.le_trans h.le hb.size⟩
  rcases ho.2 with h0 | ⟨g, cap, cur, hv, hB, hh, h1⟩
  · exact .inl h0
  · exact .inr ⟨g, cap, cur, hv, hB, by rw [hb.block g (Array.getElem?_eq_some_iff.1 hh).1, hh], h1⟩
theorem Rws.alloc (h : Rws e te k B w wr v zss) (o : Obj) : Rws e te k B w (wr.alloc o) v zss := h.later ((Below.refl _ _).alloc (Nat.le_refl _) _)
/-- As a slice that is read. -/
theorem Rws.form (h : Rws e te k B w wr v zss) : ∃ A cap, v = .slice A zss.length cap ∧ zss.length ≤ cap ∧ (A = none → cap = 0) ∧
    ∀ (i : Nat) (z : List Int), zss[i]? = some z → ∃ g A' c', A = some ⟨g, 0, none⟩ ∧ g < wr.heap.size ∧ wr.cell? ⟨g, 0 + i, none⟩ = some (.slice A' z.length c') ∧ Ints k wr A' z ∧ z.length ≤ c' ∧ (A' = none → c' = 0) ∧ c' ≤ maxLen := by
  obtain ⟨xs, ho, hc⟩ := h.row
  have hxl : xs.length = zss.length := by have := ho.1; omega
  rcases ho.2 with ⟨rfl, h0⟩ | ⟨g, cap, cur, rfl, _, hh, hcap, hm, _, _⟩
  · have : zss = [] := List.eq_nil_of_length_eq_zero h0
    subst this
    exact ⟨none, 0, rfl, Nat.le_refl _, (fun _ => rfl), fun i z hz => by simp at hz⟩
  · refine ⟨_, cap, rfl, hcap, (fun h => by cases h), fun i z hz => ?_⟩
    have hi : i < zss.length := (List.getElem?_eq_some_iff.1 hz).1
    have hx : xs[i]? = some xs[i] := List.getElem?_eq_getElem (by omega)
    obtain ⟨A', c', e1, h1, h2, h3, h4⟩ := (hc i _ z hx hz).form
    have hcell := ho.cellAt i (by omega)
    refine ⟨g, A', c', rfl, (Array.getElem?_eq_some_iff.1 hh).1, ?_, h1, h2, h3, h4⟩
    rw [Nat.zero_add, hcell, hx, e1]
end
end
end Go.Proofs.YtcbdokocnjoilaaGreatDoor
