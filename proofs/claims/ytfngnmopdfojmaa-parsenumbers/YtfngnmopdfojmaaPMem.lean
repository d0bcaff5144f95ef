/-
  Events and parsers in memory: rows of events that are read, that a call makes and appends to; the program's parser (a stream, nine numbers, a state) and the document's.
-/
import Derived.Test.YtfngnmopdfojmaaPMath
import Derived.Test.YtfngnmopdfojmaaUStrm2
import Derived.OwnWalk
import Derived.Laws.OwnMore
namespace Go.Proofs.Ytfngnmopdfojmaa
set_option maxRecDepth 100000
open Go.ChangeShapes Go.WideShapes Go.ChangeAt Go.RowKit
set_option linter.unusedVariables false

theorem brk_fl (h : List Int) : brkE h = prE (flushed h) := by unfold brkE flushed prE; split <;> rfl

/-! ### blocks -/
theorem Whole.ne {w : World} {a b : Nat} {t t' : TypeId} {l l' : List Value} (h : Whole w a t l) (k : Whole w b t' l') (ht : t ≠ t') : a ≠ b := by
  rintro rfl
  unfold Whole at h k
  rw [h] at k
  simp only [Option.some.injEq, Obj.cells.injEq] at k
  exact ht k.2.1
theorem Whole.same {w w' : World} {g : Nat} {t : TypeId} {l : List Value} (h : Whole w g t l) (e : w'.heap[g]? = w.heap[g]?) : Whole w' g t l := e.trans h
/-- What stays of blocks of a type. -/
def Stays (t : TypeId) (w w' : World) : Prop := ∀ (b : Nat) (cur : Array Value), w.heap[b]? = some (Obj.cells cur t (0, 0)) → w'.heap[b]? = w.heap[b]?
theorem Stays.of_below {t : TypeId} {w w' : World} (h : Below w.heap.size w w') : Stays t w w' := fun b cur hb => h.block b (Array.getElem?_eq_some_iff.1 hb).1
theorem Stays.refl {t : TypeId} {w : World} : Stays t w w := fun _ _ _ => rfl
theorem Stays.trans {t : TypeId} {w w' w'' : World} (h : Stays t w w') (k : Stays t w' w'') : Stays t w w'' := fun b cur hb => (k b cur ((h b cur hb).trans hb)).trans (h b cur hb)
theorem Stays.put {t t' : TypeId} {w : World} {g i : Nat} {l : List Value} {u : Value} (h : Whole w g t' l) (ht : t ≠ t') : Stays t w (w.setCell ⟨g, i, none⟩ u) := by
  intro b cur hb
  refine Below.heap_setCell _ _ _ _ ?_
  rintro rfl
  unfold Whole at h
  rw [hb] at h
  simp only [Option.some.injEq, Obj.cells.injEq] at h
  exact ht h.2.1
theorem Stays.of_fr {t t' : TypeId} {w w' : World} {g : Nat} {l : List Value} (h : Fr w.heap.size g w w') (hw : Whole w g t' l) (ht : t ≠ t') : Stays t w w' := by
  intro b cur hb
  refine h.block b (Array.getElem?_eq_some_iff.1 hb).1 ?_
  rintro rfl
  unfold Whole at hw
  rw [hb] at hw
  simp only [Option.some.injEq, Obj.cells.injEq] at hw
  exact ht hw.2.1
theorem Stays.whole {t : TypeId} {w w' : World} {g : Nat} {l : List Value} (h : Stays t w w') (hw : Whole w g t l) : Whole w' g t l := hw.same (h g _ hw)

/-! ### numbers in blocks of a type, or below C -/
def IntsT (C : Nat) (t : TypeId) (k : IntKind) (w : World) (a : Option Addr) (zs : List Int) : Prop :=
  zs = [] ∨ ∃ b off, a = some ⟨b, off, none⟩ ∧ (b < C ∨ ∃ cur, w.heap[b]? = some (Obj.cells cur t (0, 0))) ∧ ∀ i, i < zs.length → w.cell? ⟨b, off + i, none⟩ = some (.int k (zs.getD i 0))
section
variable {C : Nat} {t : TypeId} {k : IntKind} {w w' : World} {a : Option Addr} {zs : List Int}
theorem IntsT.nil : IntsT C t k w a [] := .inl rfl
theorem IntsT.ints (h : IntsT C t k w a zs) : Ints k w a zs := by
  rcases h with h | ⟨b, off, ha, _, hc⟩
  · exact .inl h
  · exact .inr ⟨b, off, ha, hc⟩
theorem IntsT.keep (h : IntsT C t k w a zs) (hl : ∀ b, b < C → w'.heap[b]? = w.heap[b]?) (hs : Stays t w w') : IntsT C t k w' a zs := by
  rcases h with h | ⟨b, off, ha, hb, hc⟩
  · exact .inl h
  · have e : w'.heap[b]? = w.heap[b]? := by
      rcases hb with hb | ⟨cur, hb⟩
      · exact hl b hb
      · exact hs b cur hb
    refine .inr ⟨b, off, ha, ?_, fun i hi => ?_⟩
    · rcases hb with hb | ⟨cur, hb⟩
      · exact .inl hb
      · exact .inr ⟨cur, e.trans hb⟩
    · rw [← hc i hi]; simp only [World.cell?, e]
theorem IntsT.below (h : IntsT C t k w a zs) (hb : Below w.heap.size w w') (hC : C ≤ w.heap.size) : IntsT C t k w' a zs := h.keep (fun b hlt => hb.block b (by omega)) (.of_below hb)
theorem IntsT.take (h : IntsT C t k w a zs) (n : Nat) : IntsT C t k w a (zs.take n) := by
  rcases h with h | ⟨b, off, ha, hb, hc⟩
  · exact .inl (by simp [h])
  · refine .inr ⟨b, off, ha, hb, fun i hi => ?_⟩
    rw [List.length_take] at hi
    rw [hc i (by omega)]
    simp [show i < n by omega]
theorem IntsT.drop (h : IntsT C t k w a zs) (n : Nat) : IntsT C t k w (a.map (·.add n)) (zs.drop n) := by
  rcases h with h | ⟨b, off, ha, hb, hc⟩
  · exact .inl (by simp [h])
  · refine .inr ⟨b, off + n, ?_, hb, fun i hi => ?_⟩
    · subst ha; simp only [Option.map_some, Addr.add]; split <;> simp_all
    · rw [List.length_drop] at hi
      rw [show off + n + i = off + (n + i) by omega, hc (n + i) (by omega)]
      simp [List.getElem?_drop]
theorem IntsT.cut (h : IntsT C t k w a zs) (n cap : Nat) (hc : zs.length ≤ cap) : IntsT C t k w (if cap = n then a else a.map (·.add n)) (zs.drop n) := by
  by_cases e : cap = n
  · rw [if_pos e]; exact .inl (List.drop_eq_nil_of_le (by omega))
  · rw [if_neg e]; exact h.drop n
theorem Own.typed {B : Nat} {wr : World} {v : Value} (h : Own t k B w wr v zs) : ∃ A cap, v = .slice A zs.length cap ∧ IntsT C t k wr A zs ∧ zs.length ≤ cap ∧ (A = none → cap = 0) ∧ cap ≤ maxLen := by
  rcases h.own.2 with ⟨rfl, h0⟩ | ⟨g, cap, cur, rfl, _, hh, hc, hm, _, _⟩
  · have : zs = [] := List.eq_nil_of_length_eq_zero h0
    subst this
    exact ⟨none, 0, rfl, .nil, Nat.le_refl _, fun _ => rfl, Nat.zero_le _⟩
  · refine ⟨_, cap, rfl, .inr ⟨g, 0, rfl, .inr ⟨cur, hh⟩, fun i hi => ?_⟩, hc, (fun h => by cases h), hm⟩
    rw [Nat.zero_add, h.own.cellAt i (by omega)]
    simp [List.getElem?_eq_getElem hi]
theorem IntsT.new (w : World) (t : TypeId) (zs : List Int) : IntsT C t k (w.alloc (.cells (zs.map (Value.int k)).toArray t)) (some ⟨w.heap.size, 0, none⟩) zs := by
  refine .inr ⟨_, _, rfl, .inr ⟨_, heap_alloc_new w _⟩, fun i hi => ?_⟩
  rw [Nat.zero_add, cell_of_row _ w.heap.size i _ t (0, 0) (heap_alloc_new w _)]
  simp [List.getElem?_eq_getElem hi]
end

/-! ### events -/
/-- An event, and where its numbers lie. -/
structure Ea where
  e : Ev
  A : Option Addr
  c : Nat
def eaL (k : IntKind) (x : Ea) : List Value := [.int .i64 x.e.k, .int k x.e.r, .slice x.A x.e.n.length x.c]
def flatE (k : IntKind) (l : List Ea) : List Value := l.flatMap (eaL k)
def EaOk (C : Nat) (w : World) (x : Ea) : Prop := IntsT C 3 .i64 w x.A x.e.n
theorem flatE_len (k : IntKind) (l : List Ea) : (flatE k l).length = l.length * 3 := by
  induction l with
  | nil => rfl
  | cons c cs ih => unfold flatE at ih ⊢; rw [List.flatMap_cons, List.length_append, ih, List.length_cons]; show 3 + _ = _; omega
theorem flatE_append (k : IntKind) (a b : List Ea) : flatE k (a ++ b) = flatE k a ++ flatE k b := by unfold flatE; simp
theorem flatE_get (k : IntKind) (l : List Ea) : ∀ (i d : Nat), d < 3 → (flatE k l)[i * 3 + d]? = (l[i]?).bind (fun c => (eaL k c)[d]?) := by
  induction l with
  | nil => intro i d _; simp [flatE]
  | cons c cs ih =>
    intro i d hd
    have hl : (eaL k c).length = 3 := rfl
    unfold flatE at ih ⊢
    rw [List.flatMap_cons]
    cases i with
    | zero => rw [List.getElem?_append_left (by omega)]; simp
    | succ i =>
      rw [List.getElem?_append_right (by omega), hl, show (i + 1) * 3 + d - 3 = i * 3 + d by omega, ih i d hd]
      simp
theorem flatE_one (k : IntKind) (l : List Ea) : ∀ u ∈ flatE k l, u.oneCell' = true := by
  intro u hu
  unfold flatE at hu
  obtain ⟨c, _, hc⟩ := List.mem_flatMap.1 hu
  simp only [eaL, List.mem_cons, List.not_mem_nil, or_false] at hc
  rcases hc with rfl | rfl | rfl <;> rfl
theorem flatE_take (k : IntKind) (l : List Ea) (n : Nat) : flatE k (l.take n) = (flatE k l).take (n * 3) := by
  induction l generalizing n with
  | nil => simp [flatE]
  | cons c cs ih =>
    cases n with
    | zero => simp [flatE]
    | succ n =>
      have hl : (eaL k c).length = 3 := rfl
      have e := ih n
      unfold flatE at e ⊢
      rw [List.take_succ_cons, List.flatMap_cons, List.flatMap_cons, e, List.take_append, hl, show (n + 1) * 3 - 3 = n * 3 by omega, List.take_of_length_le (by omega : (eaL k c).length ≤ (n + 1) * 3)]
theorem EaOk.keep {C : Nat} {w w' : World} {x : Ea} (h : EaOk C w x) (hl : ∀ b, b < C → w'.heap[b]? = w.heap[b]?) (hs : Stays 3 w w') : EaOk C w' x := IntsT.keep h hl hs

/-- A slice of events, in a block of type te or below C. -/
def Evs (C : Nat) (te : TypeId) (k : IntKind) (w : World) (A : Option Addr) (es : List Ev) : Prop :=
  ∃ l : List Ea, l.map (·.e) = es ∧ (∀ x ∈ l, EaOk C w x) ∧ (l = [] ∨ ∃ b off, A = some ⟨b, off, none⟩ ∧ (b < C ∨ ∃ cur, w.heap[b]? = some (Obj.cells cur te (0, 0))) ∧ ∀ j v, (flatE k l)[j]? = some v → w.cell? ⟨b, off + j, none⟩ = some v)
section
variable {C : Nat} {te : TypeId} {k : IntKind} {w w' : World} {A : Option Addr} {es : List Ev}
theorem Evs.nil : Evs C te k w A [] := ⟨[], rfl, by simp, .inl rfl⟩
theorem Evs.keep (h : Evs C te k w A es) (hl : ∀ b, b < C → w'.heap[b]? = w.heap[b]?) (hs : Stays 3 w w') (ht : Stays te w w') : Evs C te k w' A es := by
  obtain ⟨l, he, hok, h⟩ := h
  refine ⟨l, he, fun x hx => (hok x hx).keep hl hs, ?_⟩
  rcases h with h | ⟨b, off, ha, hb, hc⟩
  · exact .inl h
  · have e : w'.heap[b]? = w.heap[b]? := by
      rcases hb with hb | ⟨cur, hb⟩
      · exact hl b hb
      · exact ht b cur hb
    refine .inr ⟨b, off, ha, ?_, fun j v hj => ?_⟩
    · rcases hb with hb | ⟨cur, hb⟩
      · exact .inl hb
      · exact .inr ⟨cur, e.trans hb⟩
    · rw [← hc j v hj]; simp only [World.cell?, e]
theorem Evs.below (h : Evs C te k w A es) (hb : Below w.heap.size w w') (hC : C ≤ w.heap.size) : Evs C te k w' A es := h.keep (fun b hlt => hb.block b (by omega)) (.of_below hb) (.of_below hb)
theorem Evs.take (h : Evs C te k w A es) (n : Nat) : Evs C te k w A (es.take n) := by
  obtain ⟨l, he, hok, h⟩ := h
  refine ⟨l.take n, by rw [← he, List.map_take], fun x hx => hok x (List.mem_of_mem_take hx), ?_⟩
  rcases h with h | ⟨b, off, ha, hb, hc⟩
  · exact .inl (by simp [h])
  · refine .inr ⟨b, off, ha, hb, fun j v hj => hc j v ?_⟩
    rw [flatE_take, List.getElem?_take] at hj
    split at hj
    · exact hj
    · cases hj
def evAt (es : List Ev) (i : Nat) : Ev := es.getD i ⟨0, 0, []⟩
theorem Evs.at (h : Evs C te k w A es) {i : Nat} (hi : i < es.length) : ∃ b off A' c', A = some ⟨b, off, none⟩ ∧ b < w.heap.size ∧ w.cell? ⟨b, off + i * 3, none⟩ = some (.int .i64 (evAt es i).k) ∧
    w.cell? ⟨b, off + i * 3 + 1, none⟩ = some (.int k (evAt es i).r) ∧ w.cell? ⟨b, off + i * 3 + 2, none⟩ = some (.slice A' (evAt es i).n.length c') ∧ IntsT C 3 .i64 w A' (evAt es i).n := by
  obtain ⟨l, rfl, hok, h⟩ := h
  rw [List.length_map] at hi
  rcases h with rfl | ⟨b, off, ha, hb, hc⟩
  · simp at hi
  · have hx : l[i]? = some l[i] := List.getElem?_eq_getElem hi
    have he : evAt (l.map (·.e)) i = l[i].e := by unfold evAt; rw [List.getD_eq_getElem?_getD, List.getElem?_map, hx]; rfl
    have g : ∀ d v, d < 3 → (eaL k l[i])[d]? = some v → w.cell? ⟨b, off + i * 3 + d, none⟩ = some v := by
      intro d v hd hv
      rw [Nat.add_assoc]
      exact hc _ v (by rw [flatE_get k l i d hd, hx]; exact hv)
    have g0 := g 0 _ (by omega) rfl
    refine ⟨b, off, l[i].A, l[i].c, ha, block_lt_of_cell g0, ?_, ?_, ?_, ?_⟩
    · rw [he]; exact g0
    · rw [he]; exact g 1 _ (by omega) rfl
    · rw [he]; exact g 2 _ (by omega) rfl
    · rw [he]; exact hok _ (List.getElem_mem hi)
end

/-! ### rows of events that a call makes -/
structure ElemE (P : Program) (S e : TypeId) (k : IntKind) (bytes : Nat) : Prop where
  under : P.underlying S = some (.slice e)
  info : (P.info? e).map (fun i => (i.zero, i.size, i.bytes)) = some (some (.agg #[.int .i64 0, .int k 0, .slice none 0 0]), 3, bytes)
theorem elemEv : ElemE Try.prog 44 56 .i32 40 := ⟨Try.underlying44, by kernel_rfl⟩
theorem elemE : ElemE Try.prog 38 58 .i64 40 := ⟨Try.underlying38, by kernel_rfl⟩
structure OwnE (C : Nat) (te : TypeId) (k : IntKind) (B : Nat) (w wr : World) (v : Value) (es : List Ev) : Prop where
  row : ∃ l : List Ea, l.map (·.e) = es ∧ wr.ownsRow B te 3 v l.length (flatE k l) ∧ ∀ x ∈ l, EaOk C wr x
  bel : Below B w wr
  le : B ≤ wr.heap.size
  cle : C ≤ B
section
variable {C : Nat} {te : TypeId} {k : IntKind} {B : Nat} {w wr w1 : World} {v : Value} {es : List Ev}
theorem OwnE.start (hB : B ≤ w.heap.size) (hC : C ≤ B) : OwnE C te k B w w (.slice none 0 0) [] := ⟨⟨[], rfl, World.ownsRow_nil _ _ _ _, by simp⟩, Below.refl _ _, hB, hC⟩
theorem OwnE.from0 (hB : B ≤ wr.heap.size) (hb : Below B w wr) (hC : C ≤ B) : OwnE C te k B w wr (.slice none 0 0) [] := ⟨⟨[], rfl, World.ownsRow_nil _ _ _ _, by simp⟩, hb, hB, hC⟩
theorem OwnE.empty (w : World) (hC : C ≤ w.heap.size) : OwnE C te k w.heap.size w (w.alloc (.cells #[] te)) (.slice (some ⟨w.heap.size, 0, none⟩) 0 0) [] :=
  ⟨⟨[], rfl, ⟨by simp [flatE], .inr ⟨w.heap.size, 0, #[], rfl, Nat.le_refl _, heap_alloc_new w _, Nat.le_refl _, Nat.zero_le _, rfl, rfl⟩⟩, by simp⟩, (Below.refl _ _).alloc (Nat.le_refl _) _, by simp, hC⟩
theorem OwnE.now (h : OwnE C te k B w wr v es) : OwnE C te k B wr wr v es := ⟨h.row, Below.refl _ _, h.le, h.cle⟩
theorem OwnE.since (h : OwnE C te k B wr wr v es) (hb : Below B w wr) : OwnE C te k B w wr v es := ⟨h.row, hb, h.le, h.cle⟩
theorem OwnE.less {B' : Nat} (h : OwnE C te k B w wr v es) (hB : B' ≤ B) (hC : C ≤ B') : OwnE C te k B' w wr v es := by
  obtain ⟨l, he, ho, hok⟩ := h.row
  refine ⟨⟨l, he, ⟨ho.1, ?_⟩, hok⟩, h.bel.mono hB, by have := h.le; omega, hC⟩
  rcases ho.2 with h0 | ⟨g, cap, cur, hv, hb, h1⟩
  · exact .inl h0
  · exact .inr ⟨g, cap, cur, hv, by omega, h1⟩
theorem OwnE.form (h : OwnE C te k B w wr v es) : ∃ A cap, v = .slice A es.length cap ∧ Evs C te k wr A es ∧ es.length ≤ cap ∧ (A = none → cap = 0) ∧ cap ≤ maxLen := by
  obtain ⟨l, rfl, ho, hok⟩ := h.row
  rw [List.length_map]
  rcases ho.2 with ⟨rfl, h0⟩ | ⟨g, cap, cur, rfl, _, hh, hc, hm, _, _⟩
  · have : l = [] := List.eq_nil_of_length_eq_zero h0
    subst this
    exact ⟨none, 0, rfl, .nil, Nat.le_refl _, fun _ => rfl, Nat.zero_le _⟩
  · refine ⟨_, cap, rfl, ⟨l, rfl, hok, .inr ⟨g, 0, rfl, .inr ⟨cur, hh⟩, fun i v hi => ?_⟩⟩, hc, (fun h => by cases h), hm⟩
    have := ho.cells (g := g) rfl i v hi
    rwa [show (⟨g, 0, none⟩ : Addr).add i = ⟨g, 0 + i, none⟩ by unfold Addr.add; split <;> simp_all] at this
theorem OwnE.slice (h : OwnE C te k B w wr v es) : ∃ A n cap, v = .slice A n cap := by obtain ⟨A, cap, e, _⟩ := h.form; exact ⟨A, _, cap, e⟩
/-- Where blocks of its types, and those below C, stay. -/
theorem OwnE.keep (h : OwnE C te k B wr wr v es) (hl : ∀ b, b < C → w1.heap[b]? = wr.heap[b]?) (hs : Stays 3 wr w1) (ht : Stays te wr w1) (hz : wr.heap.size ≤ w1.heap.size) : OwnE C te k B w1 w1 v es := by
  obtain ⟨l, he, ho, hok⟩ := h.row
  refine ⟨⟨l, he, ⟨ho.1, ?_⟩, fun x hx => (hok x hx).keep hl hs⟩, Below.refl _ _, Nat.le_trans h.le hz, h.cle⟩
  rcases ho.2 with h0 | ⟨g, cap, cur, hv, hB, hh, h1⟩
  · exact .inl h0
  · exact .inr ⟨g, cap, cur, hv, hB, (ht g cur hh).trans hh, h1⟩
theorem OwnE.later (h : OwnE C te k B w wr v es) (hb : Below wr.heap.size wr w1) : OwnE C te k B w w1 v es :=
  (h.now.keep (fun b hlt => hb.block b (by have := h.le; have := h.cle; omega)) (.of_below hb) (.of_below hb) hb.size).since (h.bel.trans (hb.mono h.le))
theorem OwnE.alloc (h : OwnE C te k B w wr v es) (o : Obj) : OwnE C te k B w (wr.alloc o) v es := h.later ((Below.refl _ _).alloc (Nat.le_refl _) _)
theorem OwnE.grown {v' : Value} {l : List Ea} {ns : List Ea} (h : OwnE C te k B w wr v es) (he : l.map (·.e) = es) (hrow : wr.ownsRow B te 3 v l.length (flatE k l)) (hok : ∀ x ∈ l, EaOk C wr x) (hns : ∀ x ∈ ns, EaOk C wr x) (h3 : te ≠ 3)
    (h1 : w1.ownsRow B te 3 v' (l.length + ns.length) (flatE k l ++ flatE k ns)) (hg : wr.grownBy w1 v.ownBlock) : OwnE C te k B w w1 v' (es ++ ns.map (·.e)) ∧ (∀ t, t ≠ te → Stays t wr w1) ∧ Below B wr w1 := by
  have far : ∀ t, t ≠ te → Stays t wr w1 := by
    intro t ht g cur hh
    refine hg.block g (Array.getElem?_eq_some_iff.1 hh).1 ?_
    intro q
    rcases hrow.2 with ⟨rfl, _⟩ | ⟨g2, cap, cur2, rfl, _, hh2, _⟩
    · cases q
    · have : g = g2 := by simpa [Value.ownBlock] using q
      subst this
      rw [hh] at hh2
      simp only [Option.some.injEq, Obj.cells.injEq] at hh2
      exact ht hh2.2.1
  have hb1 : Below B wr w1 := (Below.refl _ _).grown hg h.le (own_ge hrow)
  have low : ∀ b, b < C → w1.heap[b]? = wr.heap[b]? := fun b hlt => hb1.block b (by have := h.cle; omega)
  refine ⟨⟨⟨l ++ ns, by rw [List.map_append, he], by simpa [flatE_append] using h1, ?_⟩, h.bel.grown hg h.le (own_ge hrow), Nat.le_trans h.le hg.size, h.cle⟩, far, hb1⟩
  intro x hx
  rcases List.mem_append.1 hx with q | q
  · exact (hok x q).keep low (far 3 (Ne.symm h3))
  · exact (hns x q).keep low (far 3 (Ne.symm h3))
end
theorem cells_new3 (w : World) (l : List Value) (t : TypeId) : ∀ j u, l[j]? = some u → (w.alloc (.cells l.toArray t)).cell? ((⟨w.heap.size, 0, none⟩ : Addr).add j) = some u := by
  intro j u hj
  rw [show (⟨w.heap.size, 0, none⟩ : Addr).add j = ⟨w.heap.size, j, none⟩ by unfold Addr.add; split <;> simp_all, (Whole.new w t l).cell j, hj]
/-- 'append(row, e)', e in a block of its own. -/
theorem wpList_pushE {P : Program} {S te : TypeId} {k : IntKind} {bytes : Nat} (E : ElemE P S te k bytes) {ops : Array Oper} {rest : List Oper} {o : Oper} {a : Act} {Q : Exit → Act → World → Prop} {C B : Nat} {w wr : World} {v : Value} {es : List Ev} (kd r : Int) (N : Option Addr) (c : Nat) (ns : List Int) (n : Nat) (hn : ns.length = n) (hi : IntsT C 3 .i64 wr N ns)
    (hgd : Region.wanted o (yielded ops a.tmps) = true) (s y : Operand) (ho : o.op = .call { callee := .builtin .append, args := #[s, y], argTypes := #[S, S] })
    (hs : a.eval s = v) (hy : a.eval y = .slice (some ⟨wr.heap.size, 0, none⟩) 1 1) (hown : OwnE C te k B w wr v es) (hlen : es.length ≤ 1000000) (hby : bytes ≤ 1000) (h3 : te ≠ 3)
    (h : ∀ v' w1, OwnE C te k B w w1 v' (es ++ [⟨kd, r, ns⟩]) → (∀ t, t ≠ te → Stays t (wr.alloc (.cells #[.int .i64 kd, .int k r, .slice N n c] te)) w1) → Below B (wr.alloc (.cells #[.int .i64 kd, .int k r, .slice N n c] te)) w1 → wpList P ops Q rest (a.put o.dst v') w1) :
    wpList P ops Q (o :: rest) a (wr.alloc (.cells #[.int .i64 kd, .int k r, .slice N n c] te)) := by
  subst hn
  obtain ⟨i0, hi0, hz0, hz1, hz2⟩ := info_parts E.info
  have hown' := hown.alloc (.cells #[.int .i64 kd, .int k r, .slice N ns.length c] te)
  obtain ⟨l, he, hrow, hok⟩ := hown'.row
  have hl : l.length = es.length := by rw [← he, List.length_map]
  have hb : (l.length + 1) * bytes ≤ 1000001 * 1000 := Nat.mul_le_mul (by omega) hby
  have hx : EaOk C (wr.alloc (.cells #[.int .i64 kd, .int k r, .slice N ns.length c] te)) ⟨⟨kd, r, ns⟩, N, c⟩ := IntsT.below hi ((Below.refl _ _).alloc (Nat.le_refl _) _) (by have := hown.le; have := hown.cle; omega)
  refine wpList_want hgd fun K hK => ?_
  refine wp_append_own _ s y S ho B te i0 _ 3 bytes E.under hi0 hz0 hz1 hz2 rfl (by decide) v l.length _ hs hrow ⟨wr.heap.size, 0, none⟩ 1 1 (eaL k ⟨⟨kd, r, ns⟩, N, c⟩) hy rfl (cells_new3 _ (eaL k ⟨⟨kd, r, ns⟩, N, c⟩) te) (by have := flatE_one k [⟨⟨kd, r, ns⟩, N, c⟩]; simpa [flatE] using this)
    (by unfold maxLen; omega) (by omega) (by have := hown.le; simp; omega) ?_
  intro v' w1 h1 hg _
  obtain ⟨q1, q2, q3⟩ := hown'.grown (ns := [⟨⟨kd, r, ns⟩, N, c⟩]) he hrow hok (by intro x hx'; simp at hx'; subst hx'; exact hx) h3 (by simpa [flatE] using h1) hg
  exact hK _ _ (h v' w1 q1 q2 q3)
/-- 'append(row, src...)', src whatever. -/
theorem wpList_catE {P : Program} {S te : TypeId} {k : IntKind} {bytes : Nat} (E : ElemE P S te k bytes) {ops : Array Oper} {rest : List Oper} {o : Oper} {a : Act} {Q : Exit → Act → World → Prop} {C B : Nat} {w wr : World} {v : Value} {es ns : List Ev} {A : Option Addr} {n c : Nat}
    (hgd : Region.wanted o (yielded ops a.tmps) = true) (s y : Operand) (ho : o.op = .call { callee := .builtin .append, args := #[s, y], argTypes := #[S, S] })
    (hs : a.eval s = v) (hy : a.eval y = .slice A n c) (hown : OwnE C te k B w wr v es) (hns : Evs C te k wr A ns) (hn : ns.length = n) (hc : A = none → c = 0) (hlen : es.length + n ≤ 1000000) (hby : bytes ≤ 1000) (h3 : te ≠ 3)
    (h : ∀ v' w1, OwnE C te k B w w1 v' (es ++ ns) → (∀ t, t ≠ te → Stays t wr w1) → Below B wr w1 → wpList P ops Q rest (a.put o.dst v') w1) : wpList P ops Q (o :: rest) a wr := by
  subst hn
  obtain ⟨i0, hi, hz0, hz1, hz2⟩ := info_parts E.info
  obtain ⟨l, he, hrow, hok⟩ := hown.row
  obtain ⟨m, rfl, hmok, hm⟩ := hns
  rw [List.length_map] at *
  have hl : l.length = es.length := by rw [← he, List.length_map]
  have hb : (l.length + m.length) * bytes ≤ 1000000 * 1000 := Nat.mul_le_mul (by omega) hby
  refine wpList_want hgd fun K hK => ?_
  cases A with
  | none =>
    have hn : m = [] := by
      rcases hm with h | ⟨_, _, h, _⟩
      · exact h
      · cases h
    subst hn
    obtain rfl : c = 0 := hc rfl
    have hrun := run_append_owned_none (P := P) (w := wr) B S o.type te i0 3 E.under hi v l.length _ hrow
    unfold Oper.wp
    simp [execOp, ho, resolve, invoke, builtin, hs, hy, hrun, Result.andThen]
    exact hK _ _ (h v wr (by simpa using hown) (fun _ _ => Stays.refl) (Below.refl _ _))
  | some ad =>
    refine wp_append_own _ s y S ho B te i0 _ 3 bytes E.under hi hz0 hz1 hz2 rfl (by decide) v l.length _ hs hrow ad m.length c (flatE k m) hy (flatE_len k m) ?_ (flatE_one k m)
      (by unfold maxLen; omega) (by omega) hown.le ?_
    · intro j u hu
      rcases hm with rfl | ⟨b, off, e1, _, hcell⟩
      · simp [flatE] at hu
      · cases e1
        rw [show (⟨b, off, none⟩ : Addr).add j = ⟨b, off + j, none⟩ by unfold Addr.add; split <;> simp_all]
        exact hcell j u hu
    · intro v' w1 h1 hg _
      obtain ⟨q1, q2, q3⟩ := hown.grown (ns := m) he hrow hok hmok h3 h1 hg
      exact hK _ _ (h v' w1 q1 q2 q3)
end Go.Proofs.Ytfngnmopdfojmaa
