/-
  Rows of rows of numbers that a call makes and appends to, of no program.
-/
import Derived.Test.YtdeoeihbmdgipaaDoorWords
namespace Go.Proofs.YtdeoeihbmdgipaaDoor
open Go.ChangeShapes Go.WideShapes Go.ChangeAt Go.RowKit
set_option linter.unusedVariables false

/-- A row of the call's own holds these numbers. -/
def Cl (te : TypeId) (k : IntKind) (B : Nat) (w : World) (x : Value) (z : List Int) : Prop := w.ownsRow B te 1 x z.length (z.map (Value.int k))

section
variable {te e : TypeId} {k : IntKind} {B : Nat} {w w' wr : World} {x v : Value} {z : List Int}
theorem Own.cl (h : Own te k B w wr x z) : Cl te k B wr x z := h.own
theorem Cl.less {C : Nat} (h : Cl te k B w x z) (hC : C ≤ B) : Cl te k C w x z := by
  refine ⟨h.1, ?_⟩
  rcases h.2 with h0 | ⟨g, cap, cur, hv, hB, h1⟩
  · exact .inl h0
  · exact .inr ⟨g, cap, cur, hv, Nat.le_trans hC hB, h1⟩
theorem Cl.keep (h : Cl te k B w x z) (hb : ∀ (g : Nat) (cur : Array Value), w.heap[g]? = some (Obj.cells cur te (0, 0)) → w'.heap[g]? = w.heap[g]?) : Cl te k B w' x z := by
  refine ⟨h.1, ?_⟩
  rcases h.2 with h0 | ⟨g, cap, cur, hv, hB, hh, h1⟩
  · exact .inl h0
  · exact .inr ⟨g, cap, cur, hv, hB, (hb g cur hh).trans hh, h1⟩
theorem Cl.later (h : Cl te k B w x z) (hb : Below w.heap.size w w') : Cl te k B w' x z := h.keep fun g cur hh => hb.block g (Array.getElem?_eq_some_iff.1 hh).1
theorem Cl.alloc (h : Cl te k B w x z) (o : Obj) : Cl te k B (w.alloc o) x z := h.keep fun g cur hh => Below.heap_alloc w o g (Array.getElem?_eq_some_iff.1 hh).1
theorem Cl.one (h : Cl te k B w x z) : x.oneCell' = true := by
  rcases h.2 with ⟨rfl, _⟩ | ⟨g, cap, cur, rfl, _⟩ <;> rfl
theorem Cl.form (h : Cl te k B w x z) : ∃ A cap, x = .slice A z.length cap ∧ Ints k w A z ∧ z.length ≤ cap ∧ (A = none → cap = 0) ∧ cap ≤ maxLen :=
  Own.form2 (w := w) (B := min B w.heap.size) ⟨h.less (Nat.min_le_left _ _), Below.refl _ _, Nat.min_le_right _ _⟩
end

/-- A row of rows of the call's own (blocks from B on), all that lay below B being as it was. -/
structure Rws (e te : TypeId) (k : IntKind) (B : Nat) (w wr : World) (v : Value) (zss : List (List Int)) : Prop where
  row : ∃ xs : List Value, wr.ownsRow B e 1 v zss.length xs ∧ ∀ (i : Nat) (x : Value) (z : List Int), xs[i]? = some x → zss[i]? = some z → Cl te k B wr x z
  bel : Below B w wr
  le : B ≤ wr.heap.size

section
variable {te e : TypeId} {k : IntKind} {B : Nat} {w wr w1 : World} {v : Value} {zss : List (List Int)}
theorem Rws.start (hB : B ≤ w.heap.size) : Rws e te k B w w (.slice none 0 0) [] := ⟨⟨[], World.ownsRow_nil _ _ _ _, fun i x z h => by simp at h⟩, Below.refl _ _, hB⟩
theorem Rws.later (h : Rws e te k B w wr v zss) (hb : Below wr.heap.size wr w1) : Rws e te k B w w1 v zss := by
  obtain ⟨xs, ho, hc⟩ := h.row
  refine ⟨⟨xs, ⟨ho.1, ?_⟩, fun i x z h1 h2 => (hc i x z h1 h2).later hb⟩, h.bel.trans (hb.mono h.le), Nat.le_trans h.le hb.size⟩
  rcases ho.2 with h0 | ⟨g, cap, cur, hv, hB, hh, h1⟩
  · exact .inl h0
  · exact .inr ⟨g, cap, cur, hv, hB, by rw [hb.block g (Array.getElem?_eq_some_iff.1 hh).1, hh], h1⟩
theorem Rws.alloc (h : Rws e te k B w wr v zss) (o : Obj) : Rws e te k B w (wr.alloc o) v zss := h.later ((Below.refl _ _).alloc (Nat.le_refl _) _)
/-- As a slice that is read. -/
theorem Rws.form (h : Rws e te k B w wr v zss) : ∃ A cap, v = .slice A zss.length cap ∧ zss.length ≤ cap ∧ (A = none → cap = 0) ∧
    ∀ (i : Nat) (z : List Int), zss[i]? = some z → ∃ g A' c', A = some ⟨g, 0, none⟩ ∧ g < wr.heap.size ∧ wr.cell? ⟨g, 0 + i, none⟩ = some (.slice A' z.length c') ∧ Ints k wr A' z ∧ z.length ≤ c' ∧ (A' = none → c' = 0) ∧ c' ≤ maxLen := by
  obtain ⟨xs, ho, hc⟩ := h.row
  have hxl : xs.length = zss.length := by have := ho.1; omega
  rcases ho.2 with ⟨rfl, h0⟩ | ⟨g, cap, cur, rfl, _, hh, hcap, hm, _, _⟩
  · have : zss = [] := List.eq_nil_of_length_eq_zero h0
    subst this
    exact ⟨none, 0, rfl, Nat.le_refl _, (fun _ => rfl), fun i z hz => by simp at hz⟩
  · refine ⟨_, cap, rfl, hcap, (fun h => by cases h), fun i z hz => ?_⟩
    have hi : i < zss.length := (List.getElem?_eq_some_iff.1 hz).1
    have hx : xs[i]? = some xs[i] := List.getElem?_eq_getElem (by omega)
    obtain ⟨A', c', e1, h1, h2, h3, h4⟩ := (hc i _ z hx hz).form
    have hcell := ho.cellAt i (by omega)
    refine ⟨g, A', c', rfl, (Array.getElem?_eq_some_iff.1 hh).1, ?_, h1, h2, h3, h4⟩
    rw [Nat.zero_add, hcell, hx, e1]
end

/-- What the loaded program's table says of a slice type S over slices of type e. -/
structure ElemR (P : Program) (S e : TypeId) : Prop where
  under : P.underlying S = some (.slice e)
  info : (P.info? e).map (fun i => (i.zero, i.size, i.bytes)) = some (some (.slice none 0 0), 1, 24)

/-- 'append(rows, x)', x in a block of its own. -/
theorem wpList_pushR {P : Program} {S e te : TypeId} {k : IntKind} (E : ElemR P S e) (hne : te ≠ e) {ops : Array Oper} {rest : List Oper} {o : Oper} {a : Act} {Q : Exit → Act → World → Prop} {B : Nat} {w wr : World} {v x : Value} {zss : List (List Int)} {z : List Int}
    (hgd : Region.wanted o (yielded ops a.tmps) = true) (s y : Operand) (ho : o.op = .call { callee := .builtin .append, args := #[s, y], argTypes := #[S, S] })
    (hs : a.eval s = v) (hy : a.eval y = .slice (some ⟨wr.heap.size, 0, none⟩) 1 1) (hown : Rws e te k B w wr v zss) (hx : Cl te k B wr x z) (hlen : zss.length ≤ 1000000)
    (h : ∀ v' w1, Rws e te k B w w1 v' (zss ++ [z]) → wpList P ops Q rest (a.put o.dst v') w1) : wpList P ops Q (o :: rest) a (wr.alloc (.cells #[x] e)) := by
  obtain ⟨i0, hi, hz0, hz1, hz2⟩ := info_parts E.info
  obtain ⟨xs, hrow, hcl⟩ := (hown.alloc (.cells #[x] e)).row
  have hxl : xs.length = zss.length := by have := hrow.1; omega
  have hle := (hown.alloc (.cells #[x] e)).le
  refine wpList_want hgd fun K hK => ?_
  refine wp_append_own _ s y S ho B e i0 (.slice none 0 0) 1 24 E.under hi hz0 hz1 hz2 rfl (by decide) v zss.length xs hs hrow ⟨wr.heap.size, 0, none⟩ 1 1 [x] hy rfl (cell_one_new _ _ _) (by intro u hu; simp at hu; subst hu; exact hx.one)
    (by unfold maxLen; omega) (by omega) hle ?_
  intro v' w1 h1 hg _
  have far : ∀ (g : Nat) (cur : Array Value), (wr.alloc (.cells #[x] e)).heap[g]? = some (Obj.cells cur te (0, 0)) → w1.heap[g]? = (wr.alloc (.cells #[x] e)).heap[g]? := by
    intro g cur hh
    refine hg.block g (Array.getElem?_eq_some_iff.1 hh).1 ?_
    intro q
    rcases hrow.2 with ⟨rfl, _⟩ | ⟨g2, cap, cur2, rfl, _, hh2, _⟩
    · cases q
    · have : g = g2 := by simpa [Value.ownBlock] using q
      subst this
      rw [hh] at hh2
      cases hh2
      exact hne rfl
  refine hK _ _ (h v' w1 ⟨⟨xs ++ [x], by simpa using h1, ?_⟩, (hown.alloc _).bel.grown hg hle (own_ge hrow), Nat.le_trans hle hg.size⟩)
  intro i y' z' h2 h3
  by_cases hi' : i < zss.length
  · rw [List.getElem?_append_left (by omega)] at h2
    rw [List.getElem?_append_left hi'] at h3
    exact (hcl i y' z' h2 h3).keep far
  · rw [List.getElem?_append_right (by omega)] at h2 h3
    rw [hxl] at h2
    cases hq : i - zss.length with
    | zero =>
      rw [hq] at h2 h3
      simp at h2 h3
      subst h2 h3
      exact (hx.alloc _).keep far
    | succ q => rw [hq] at h2; simp at h2
end Go.Proofs.YtdeoeihbmdgipaaDoor
