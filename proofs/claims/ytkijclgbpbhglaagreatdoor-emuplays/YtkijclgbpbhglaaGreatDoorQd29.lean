/-
  Contracts and plain mathematics of ChainT, PStep0.
-/
import Derived.Test.YtkijclgbpbhglaaGreatDoorQd3
import Derived.Test.YtkijclgbpbhglaaGreatDoorQd1
import Derived.Test.YtkijclgbpbhglaaGreatDoorQd21
import Derived.Test.YtkijclgbpbhglaaGreatDoorQd11
namespace Go.Proofs.YtkijclgbpbhglaaGreatDoor
set_option maxRecDepth 100000
set_option linter.unusedVariables false
set_option maxHeartbeats 8000000
section
open Go.RowKit
inductive OTree where
 | done
 | take (i : Nat) (t : OTree)
 | alone (i : Nat) (t : OTree)
 | two (i : Nat) (t : OTree) (j : Nat) (u : OTree)
def stepT (P : Program) (ops : Array Oper) (Q : Exit → Act → World → Prop) (S : World → Prop) (i : Nat) (N : Act → World → Prop) (a : Act) (w : World) : Prop := match ops[i]? with
 | some o => ∀ K : Act → World → Prop, (∀ a w, S w → N a w → K a w) → wpList P ops (Exit.then K Q) [o] a w
 | none => False
def wpTree (P : Program) (ops : Array Oper) (Q : Exit → Act → World → Prop) (S : World → Prop) : OTree → Act → World → Prop
 | .done, a, w => Q .normal a w
 | .take i t, a, w => match ops[i]? with
  | some o => ∃ v, YieldsIf P ops S o v a ∧ wpTree P ops Q S t (a.put o.dst v) w
  | none => False
 | .alone i t, a, w => stepT P ops Q S i (wpTree P ops Q S t) a w
 | .two i t j u, a, w => stepT P ops Q S i (wpTree P ops Q S t) a w ∧ stepT P ops Q S j (wpTree P ops Q S u) a w
def okT (ops : Array Oper) : OTree → Nat → Array Bool → Bool
 | .done, n, listed => (n == 0) && (Region.ready .any ops listed).isEmpty
 | .take i t, n + 1, listed => Region.free .any ops listed i && (Region.ready .any ops listed).contains i && okT ops t n (listed.setIfInBounds i true)
 | .alone i t, n + 1, listed => (Region.ready .any ops listed == [i]) && okT ops t n (listed.setIfInBounds i true)
 | .two i t j u, n + 1, listed => (Region.ready .any ops listed == [i, j]) && (okT ops t n (listed.setIfInBounds i true) && okT ops u n (listed.setIfInBounds j true))
 | _, _, _ => false
section
variable {P : Program} {ops : Array Oper} {Q : Exit → Act → World → Prop} {S : World → Prop}
theorem op_of_step {i n : Nat} {N : Act → World → Prop} {listed : Array Bool} {a : Act} {w : World} (hmem : i ∈ Region.ready .any ops listed)
  (hN : ∀ a w, S w → N a w → wpAnyH P .any ops Q S n (listed.setIfInBounds i true) a w) (h : stepT P ops Q S i N a w) :
  wpOp P ops Q i (fun a' w' => S w' ∧ wpAnyH P .any ops Q S n (listed.setIfInBounds i true) a' w') a w := by
 obtain ⟨_, o, ho, _⟩ := mem_ready.1 hmem
 simp only [stepT, ho] at h
 have h := h (fun a' w' => S w' ∧ wpAnyH P .any ops Q S n (listed.setIfInBounds i true) a' w') (fun a' w' hS' h' => ⟨hS', hN a' w' hS' h'⟩)
 unfold wpOp
 simp only [ho]
 unfold wpList at h
 split at h
 ·rename_i hw
  rw [if_pos hw]
  rcases h with h | ⟨h1, h2⟩
  ·exact .inl (upon_list (fun a' w' h' => h') _ h)
  ·exact .inr ⟨h1, h2⟩
 ·rename_i hw
  rw [if_neg hw]
  exact h
theorem any_of_tree (hs : Region.noSelect ops = true) (hQ : ∀ c (d : Tmp) v a w, Q (.panic c) (Act.put a (some d) v) w → Q (.panic c) a w) :
  ∀ (t : OTree) (n : Nat) (listed : Array Bool) (a : Act) (w : World), okT ops t n listed = true → S w → wpTree P ops Q S t a w → wpAnyH P .any ops Q S n listed a w := by
 intro t
 induction t with
 | done =>
  intro n listed a w hok _ h
  simp only [okT, Bool.and_eq_true, beq_iff_eq] at hok
  obtain ⟨rfl, hok⟩ := hok
  exact wpAnyH_done (by simpa using hok) h 0
 | take i t ih =>
  intro n listed a w hok hS h
  cases n with
  | zero => simp [okT] at hok
  | succ n =>
   simp only [okT, Bool.and_eq_true] at hok
   obtain ⟨⟨hf, hr⟩, hok⟩ := hok
   have hmem : i ∈ Region.ready .any ops listed := by simpa using hr
   obtain ⟨_, o, ho, _⟩ := mem_ready.1 hmem
   simp only [wpTree, ho] at h
   obtain ⟨v, hy, h⟩ := h
   refine wpAnyH_take ho hs hf hr (fun c a w hh => ?_) hy hS (ih _ _ _ _ hok hS h)
   cases hd : o.dst with
   | none => rw [hd] at hh; exact hh
   | some d => rw [hd] at hh; exact hQ c d v a w hh
 | alone i t ih =>
  intro n listed a w hok hS h
  cases n with
  | zero => simp [okT] at hok
  | succ n =>
   simp only [okT, Bool.and_eq_true, beq_iff_eq] at hok
   obtain ⟨hr, hok⟩ := hok
   refine wpAnyH_all hr (by simp) fun j hj => ?_
   obtain rfl : j = i := by simpa using hj
   exact op_of_step (by rw [hr]; simp) (fun a w hS' h' => ih _ _ a w hok hS' h') h
 | two i t j u ih1 ih2 =>
  intro n listed a w hok hS h
  cases n with
  | zero => simp [okT] at hok
  | succ n =>
   simp only [okT, Bool.and_eq_true, beq_iff_eq] at hok
   obtain ⟨hr, hok1, hok2⟩ := hok
   refine wpAnyH_all hr (by simp) fun x hx => ?_
   rcases List.mem_cons.1 hx with rfl | hx
   ·exact op_of_step (by rw [hr]; simp) (fun a w hS' h' => ih1 _ _ a w hok1 hS' h') h.1
   ·obtain rfl : x = j := by simpa using hx
    exact op_of_step (by rw [hr]; simp) (fun a w hS' h' => ih2 _ _ a w hok2 hS' h') h.2
theorem wp_region_tree {id : Nat} {a : Act} {w : World} (S : World → Prop) (t : OTree) (hm : P.follows .mixedOrders = true) (hs : Region.noSelect ops = true)
  (hok : okT ops t ops.size (Array.replicate ops.size false) = true) (hQ : ∀ c (d : Tmp) v a w, Q (.panic c) (Act.put a (some d) v) w → Q (.panic c) a w)
  (hS : S w.drew) (h : wpTree P ops Q S t a w.drew) : (Code.region id ops true).wp P Q a w :=
 wp_region_held (S := S) hm (any_of_tree hs hQ t _ _ a _ hok hS h)
theorem tree_done {a : Act} {w : World} (h : Q .normal a w) : wpTree P ops Q S .done a w := h
theorem tree_take {i : Nat} {t : OTree} {o : Oper} {v : Value} {a : Act} {w : World} (ho : ops[i]? = some o) (hw : Region.wanted o (yielded ops a.tmps) = true)
  (hy : ∀ w, S w → (execOp a.eval o).run P w = .ok (.value v) w) (h : wpTree P ops Q S t (a.put o.dst v) w) : wpTree P ops Q S (.take i t) a w := by
 simp only [wpTree, ho]
 exact ⟨v, Or.inl ⟨hw, hy⟩, h⟩
theorem step_of {i : Nat} {N : Act → World → Prop} {o : Oper} {a : Act} {w : World} (ho : ops[i]? = some o)
  (h : ∀ K : Act → World → Prop, Hid (∀ a w, S w → N a w → K a w) → wpList P ops (Exit.then K Q) [o] a w) : stepT P ops Q S i N a w := by
 simp only [stepT, ho]
 exact fun K hK => h K hK
theorem tree_alone {i : Nat} {t : OTree} {o : Oper} {a : Act} {w : World} (ho : ops[i]? = some o)
  (h : ∀ K : Act → World → Prop, Hid (∀ a w, S w → wpTree P ops Q S t a w → K a w) → wpList P ops (Exit.then K Q) [o] a w) : wpTree P ops Q S (.alone i t) a w := step_of ho h
theorem tree_two {i : Nat} {t : OTree} {j : Nat} {u : OTree} {o o' : Oper} {a : Act} {w : World} (ho : ops[i]? = some o) (ho' : ops[j]? = some o')
  (h : ∀ K : Act → World → Prop, Hid (∀ a w, S w → wpTree P ops Q S t a w → K a w) → wpList P ops (Exit.then K Q) [o] a w)
  (h' : ∀ K : Act → World → Prop, Hid (∀ a w, S w → wpTree P ops Q S u a w → K a w) → wpList P ops (Exit.then K Q) [o'] a w) : wpTree P ops Q S (.two i t j u) a w := ⟨step_of ho h, step_of ho' h'⟩
end
def Others (e : TypeId) (w w1 : World) : Prop := ∀ q t l, t ≠ e → Whole w q t l → Whole w1 q t l
theorem Others.of {e : TypeId} {k : IntKind} {B : Nat} {w wr w1 : World} {v : Value} {bs : List Int} (h : Own e k B w wr v bs) (hg : wr.grownBy w1 v.ownBlock) : Others e wr w1 := by
 intro q t l ht hw
 refine (hg.block q hw.lt ?_).trans hw
 intro hq
 rcases h.own.2 with ⟨rfl, _⟩ | ⟨g, cap, cur, rfl, _, hh, _⟩
 ·simp [Value.ownBlock] at hq
 ·obtain rfl : q = g := by simpa [Value.ownBlock] using hq
  unfold Whole at hw
  rw [hh] at hw
  simp only [Option.some.injEq, Obj.cells.injEq] at hw
  exact ht hw.2.1.symm
section
variable {P : Program} {ops : Array Oper} {Q : Exit → Act → World → Prop} {S : World → Prop}
theorem rgT {id : Nat} {a : Act} {w : World} (S : World → Prop) (t : OTree) (hS : S w.drew) (h : wpTree P ops Q S t a w.drew) (hm : P.follows .mixedOrders = true := by kernel_rfl) (hs : Region.noSelect ops = true := by kernel_rfl)
  (hok : okT ops t ops.size (Array.replicate ops.size false) = true := by kernel_rfl) (hQ : ∀ c (d : Tmp) v a w, Q (.panic c) (Act.put a (some d) v) w → Q (.panic c) a w := by exact fun _ _ _ _ _ h => h) : (Code.region id ops true).wp P Q a w := wp_region_tree S t hm hs hok hQ hS h
theorem alT {i : Nat} {t : OTree} {o : Oper} {a : Act} {w : World}
  (h : ∀ K : Act → World → Prop, Hid (∀ a w, S w → wpTree P ops Q S t a w → K a w) → wpList P ops (Exit.then K Q) [o] a w) (ho : ops[i]? = some o := by simp only [List.getElem?_toArray, List.getElem?_cons_zero, List.getElem?_cons_succ] <;> rfl) : wpTree P ops Q S (.alone i t) a w := tree_alone ho h
theorem stT {i : Nat} {t : OTree} {o : Oper} {v : Value} {a a2 : Act} {w : World} (ho : ops[i]? = some o := by simp only [List.getElem?_toArray, List.getElem?_cons_zero, List.getElem?_cons_succ] <;> rfl) (hw : Region.wanted o (yielded ops a.tmps) = true := by rfl) (hy : ∀ w, S w → (execOp a.eval o).run P w = .ok (.value v) w := by intro w hS; go_simp <;> with_reducible rfl)
  (ha : a.put o.dst v = a2 := by simp only [Act.put, List.setIfInBounds_toArray, List.set_cons_zero, List.set_cons_succ] <;> rfl) (h : wpTree P ops Q S t a2 w) : wpTree P ops Q S (.take i t) a w := tree_take ho hw hy (ha ▸ h)
end
end
section
open Go.ChangeShapes Go.WideShapes Go.ChangeAt Go.RowKit
theorem Fr.wholeB {B g : Nat} {w w' : World} {b : Nat} {t : TypeId} {l : List Value} (h : Fr B g w w') (hw : Whole w b t l) (hb : b < B) (hne : ¬ b = g) : Whole w' b t l := hw.same (h.block b hb hne)
theorem wpList_catEg {P : Program} {S te : TypeId} {k : IntKind} {bytes : Nat} (E : ElemE P S te k bytes) {ops : Array Oper} {rest : List Oper} {o : Oper} {a : Act} {Q : Exit → Act → World → Prop} {C B : Nat} {w wr : World} {v : Value} {es ns : List Ev} {A : Option Addr} {n c : Nat}
  (hgd : Region.wanted o (yielded ops a.tmps) = true) (s y : Operand) (ho : o.op = .call { callee := .builtin .append, args := #[s, y], argTypes := #[S, S] })
  (hs : a.eval s = v) (hy : a.eval y = .slice A n c) (hown : OwnE C te k B w wr v es) (hns : Evs C te k wr A ns) (hn : ns.length = n) (hc : A = none → c = 0) (hlen : es.length + n ≤ 1000000) (hby : bytes ≤ 1000) (h3 : te ≠ 3)
  (h : ∀ v' w1, OwnE C te k B w w1 v' (es ++ ns) → wr.grownBy w1 v.ownBlock → wpList P ops Q rest (a.put o.dst v') w1) : wpList P ops Q (o :: rest) a wr := by
 subst hn
 obtain ⟨i0, hi, hz0, hz1, hz2⟩ := info_parts E.info
 obtain ⟨l, he, hrow, hok⟩ := hown.row
 obtain ⟨m, rfl, hmok, hm⟩ := hns
 rw [List.length_map] at *
 have hl : l.length = es.length := by rw [← he, List.length_map]
 have hb : (l.length + m.length) * bytes ≤ 1000000 * 1000 := Nat.mul_le_mul (by omega) hby
 refine wpList_want hgd fun K hK => ?_
 cases A with
 | none =>
  have hn : m = [] := by
   rcases hm with h | ⟨_, _, h, _⟩
   ·exact h
   ·cases h
  subst hn
  obtain rfl : c = 0 := hc rfl
  have hrun := run_append_owned_none (P := P) (w := wr) B S o.type te i0 3 E.under hi v l.length _ hrow
  unfold Oper.wp
  simp [execOp, ho, resolve, invoke, builtin, hs, hy, hrun, Result.andThen]
  exact hK _ _ (h v wr (by simpa using hown) ⟨rfl, rfl, rfl, Nat.le_refl _, fun _ _ _ => rfl⟩)
 | some ad =>
  refine wp_append_own _ s y S ho B te i0 _ 3 bytes E.under hi hz0 hz1 hz2 rfl (by decide) v l.length _ hs hrow ad m.length c (flatE k m) hy (flatE_len k m) ?_ (flatE_one k m)
   (by unfold maxLen; omega) (by omega) hown.le ?_
  ·intro j u hu
   rcases hm with rfl | ⟨b, off, e1, _, hcell⟩
   ·simp [flatE] at hu
   ·cases e1
    rw [show (⟨b, off, none⟩ : Addr).add j = ⟨b, off + j, none⟩ by unfold Addr.add; split <;> simp_all]
    exact hcell j u hu
  ·intro v' w1 h1 hg _
   exact hK _ _ (h v' w1 (hown.grown (ns := m) he hrow hok hmok h3 h1 hg).1 hg)
end
end Go.Proofs.YtkijclgbpbhglaaGreatDoor
