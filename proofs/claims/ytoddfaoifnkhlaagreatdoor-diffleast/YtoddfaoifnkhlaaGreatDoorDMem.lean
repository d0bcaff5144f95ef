/-
  Spans in memory: rows of spans that are read, that a call makes and appends to (the program's and the document's).
-/
import Derived.Test.YtoddfaoifnkhlaaGreatDoorB7
import Derived.Test.YtoddfaoifnkhlaaGreatDoorB8
import Derived.OwnWalk
import Derived.Laws.OwnMore
namespace Go.Proofs.YtoddfaoifnkhlaaGreatDoor
set_option maxRecDepth 100000
open Go.ChangeShapes Go.WideShapes Go.ChangeAt Go.RowKit
set_option linter.unusedVariables false

/-! ### cells in blocks of a type, or below C -/
def CelsT (C : Nat) (t : TypeId) (k : IntKind) (w : World) (a : Option Addr) (cs : List Cel) : Prop :=
  cs = [] ∨ ∃ b off, a = some ⟨b, off, none⟩ ∧ (b < C ∨ ∃ cur, w.heap[b]? = some (Obj.cells cur t (0, 0))) ∧ ∀ j v, (flatC k cs)[j]? = some v → w.cell? ⟨b, off + j, none⟩ = some v
section
variable {C : Nat} {t : TypeId} {k : IntKind} {w w' : World} {a : Option Addr} {cs : List Cel}
theorem CelsT.nil : CelsT C t k w a [] := .inl rfl
theorem CelsT.cels (h : CelsT C t k w a cs) : Cels k w a cs := by
  rcases h with h | ⟨b, off, ha, _, hc⟩
  · exact .inl h
  · exact .inr ⟨b, off, ha, hc⟩
theorem CelsT.of_cels (h : Cels k w a cs) : CelsT w.heap.size t k w a cs := by
  rcases h with h | ⟨b, off, ha, hc⟩
  · exact .inl h
  · by_cases q : cs = []
    · exact .inl q
    · have : ∃ v, (flatC k cs)[0]? = some v := by
        have hl := flatC_len k cs
        have : 0 < cs.length := List.length_pos_iff.2 q
        exact ⟨_, List.getElem?_eq_getElem (by omega)⟩
      obtain ⟨v, hv⟩ := this
      exact .inr ⟨b, off, ha, .inl (block_lt_of_cell (hc 0 v hv)), hc⟩
theorem CelsT.keep (h : CelsT C t k w a cs) (hl : ∀ b, b < C → w'.heap[b]? = w.heap[b]?) (hs : Stays t w w') : CelsT C t k w' a cs := by
  rcases h with h | ⟨b, off, ha, hb, hc⟩
  · exact .inl h
  · have e : w'.heap[b]? = w.heap[b]? := by
      rcases hb with hb | ⟨cur, hb⟩
      · exact hl b hb
      · exact hs b cur hb
    refine .inr ⟨b, off, ha, ?_, fun j v hj => ?_⟩
    · rcases hb with hb | ⟨cur, hb⟩
      · exact .inl hb
      · exact .inr ⟨cur, e.trans hb⟩
    · rw [← hc j v hj]; simp only [World.cell?, e]
theorem CelsT.below (h : CelsT C t k w a cs) (hb : Below w.heap.size w w') (hC : C ≤ w.heap.size) : CelsT C t k w' a cs := h.keep (fun b hlt => hb.block b (by omega)) (.of_below hb)
theorem CelsT.more {C' : Nat} (h : CelsT C t k w a cs) (hC : C ≤ C') : CelsT C' t k w a cs := by
  rcases h with h | ⟨b, off, ha, hb, hc⟩
  · exact .inl h
  · exact .inr ⟨b, off, ha, by rcases hb with q | q; exact .inl (by omega); exact .inr q, hc⟩
theorem CelsT.take (h : CelsT C t k w a cs) (n : Nat) : CelsT C t k w a (cs.take n) := by
  rcases h with h | ⟨b, off, ha, hb, hc⟩
  · exact .inl (by simp [h])
  · refine .inr ⟨b, off, ha, hb, fun j v hj => ?_⟩
    rw [flatC_take, List.getElem?_take] at hj
    split at hj
    · exact hc j v hj
    · cases hj
theorem flat_from {b off n : Nat} (h : ∀ j v, (flatC k cs)[j]? = some v → w.cell? ⟨b, off + j, none⟩ = some v) : ∀ j v, (flatC k (cs.drop n))[j]? = some v → w.cell? ⟨b, off + n * 7 + j, none⟩ = some v := by
  intro j v hj
  rw [flatC_drop, List.getElem?_drop] at hj
  rw [Nat.add_assoc]
  exact h _ v hj
/-- A part of a row, known by its place. -/
theorem CelsT.from {b off : Nat} (h : CelsT C t k w (some ⟨b, off, none⟩) cs) (n : Nat) : CelsT C t k w (some ⟨b, off + n * 7, none⟩) (cs.drop n) := by
  rcases h with h | ⟨b', off', ha, hb, hc⟩
  · exact .inl (by simp [h])
  · cases ha
    exact .inr ⟨b, off + n * 7, rfl, hb, flat_from hc⟩
theorem OwnC.typed {B : Nat} {wr : World} {v : Value} (h : OwnC t k B w wr v cs) : ∃ A cap, v = .slice A cs.length cap ∧ CelsT C t k wr A cs ∧ cs.length ≤ cap ∧ (A = none → cap = 0) ∧ cap ≤ maxLen := by
  obtain ⟨A, cap, rfl, hc, h1, h2, h3⟩ := h.form
  refine ⟨A, cap, rfl, ?_, h1, h2, h3⟩
  rcases h.own.2 with ⟨e, h0⟩ | ⟨g, cap', cur, e, _, hh, _, _, _, _⟩
  · exact .inl (List.eq_nil_of_length_eq_zero h0)
  · simp only [Value.slice.injEq] at e
    obtain ⟨rfl, -, -⟩ := e
    rcases hc with hc | ⟨b, off, ha, hc⟩
    · exact .inl hc
    · cases ha
      exact .inr ⟨_, _, rfl, .inr ⟨cur, hh⟩, hc⟩
end

/-! ### spans -/
/-- A span, and where its cells lie. -/
structure Sa where
  s : Sp
  A : Option Addr
  c : Nat
def saL (x : Sa) : List Value := [.int .i64 x.s.row, .int .i64 x.s.col, .slice x.A x.s.cs.length x.c]
def flatS (l : List Sa) : List Value := l.flatMap saL
def SaOk (C : Nat) (t : TypeId) (k : IntKind) (w : World) (x : Sa) : Prop := CelsT C t k w x.A x.s.cs ∧ x.s.cs.length ≤ x.c ∧ (x.A = none → x.c = 0)
theorem flatS_len (l : List Sa) : (flatS l).length = l.length * 3 := by
  induction l with
  | nil => rfl
  | cons c cs ih => unfold flatS at ih ⊢; rw [List.flatMap_cons, List.length_append, ih, List.length_cons]; show 3 + _ = _; omega
theorem flatS_append (a b : List Sa) : flatS (a ++ b) = flatS a ++ flatS b := by unfold flatS; simp
theorem flatS_get (l : List Sa) : ∀ (i d : Nat), d < 3 → (flatS l)[i * 3 + d]? = (l[i]?).bind (fun c => (saL c)[d]?) := by
  induction l with
  | nil => intro i d _; simp [flatS]
  | cons c cs ih =>
    intro i d hd
    have hl : (saL c).length = 3 := rfl
    unfold flatS at ih ⊢
    rw [List.flatMap_cons]
    cases i with
    | zero => rw [List.getElem?_append_left (by omega)]; simp
    | succ i =>
      rw [List.getElem?_append_right (by omega), hl, show (i + 1) * 3 + d - 3 = i * 3 + d by omega, ih i d hd]
      simp
theorem flatS_one (l : List Sa) : ∀ u ∈ flatS l, u.oneCell' = true := by
  intro u hu
  unfold flatS at hu
  obtain ⟨c, _, hc⟩ := List.mem_flatMap.1 hu
  simp only [saL, List.mem_cons, List.not_mem_nil, or_false] at hc
  rcases hc with rfl | rfl | rfl <;> rfl
theorem SaOk.keep {C : Nat} {t : TypeId} {k : IntKind} {w w' : World} {x : Sa} (h : SaOk C t k w x) (hl : ∀ b, b < C → w'.heap[b]? = w.heap[b]?) (hs : Stays t w w') : SaOk C t k w' x := ⟨h.1.keep hl hs, h.2⟩

/-- A slice of spans, in a block of type te or below C; their cells in blocks of type t or below C. -/
def Sps (C : Nat) (te t : TypeId) (k : IntKind) (w : World) (A : Option Addr) (ss : List Sp) : Prop :=
  ∃ l : List Sa, l.map (·.s) = ss ∧ (∀ x ∈ l, SaOk C t k w x) ∧ (l = [] ∨ ∃ b off, A = some ⟨b, off, none⟩ ∧ (b < C ∨ ∃ cur, w.heap[b]? = some (Obj.cells cur te (0, 0))) ∧ ∀ j v, (flatS l)[j]? = some v → w.cell? ⟨b, off + j, none⟩ = some v)
section
variable {C : Nat} {te t : TypeId} {k : IntKind} {w w' : World} {A : Option Addr} {ss : List Sp}
theorem Sps.nil : Sps C te t k w A [] := ⟨[], rfl, by simp, .inl rfl⟩
theorem Sps.keep (h : Sps C te t k w A ss) (hl : ∀ b, b < C → w'.heap[b]? = w.heap[b]?) (hs : Stays t w w') (ht : Stays te w w') : Sps C te t k w' A ss := by
  obtain ⟨l, he, hok, h⟩ := h
  refine ⟨l, he, fun x hx => (hok x hx).keep hl hs, ?_⟩
  rcases h with h | ⟨b, off, ha, hb, hc⟩
  · exact .inl h
  · have e : w'.heap[b]? = w.heap[b]? := by
      rcases hb with hb | ⟨cur, hb⟩
      · exact hl b hb
      · exact ht b cur hb
    refine .inr ⟨b, off, ha, ?_, fun j v hj => ?_⟩
    · rcases hb with hb | ⟨cur, hb⟩
      · exact .inl hb
      · exact .inr ⟨cur, e.trans hb⟩
    · rw [← hc j v hj]; simp only [World.cell?, e]
theorem Sps.below (h : Sps C te t k w A ss) (hb : Below w.heap.size w w') (hC : C ≤ w.heap.size) : Sps C te t k w' A ss := h.keep (fun b hlt => hb.block b (by omega)) (.of_below hb) (.of_below hb)
theorem Sps.at (h : Sps C te t k w A ss) {i : Nat} (hi : i < ss.length) : ∃ b off A' c', A = some ⟨b, off, none⟩ ∧ b < w.heap.size ∧ w.cell? ⟨b, off + i * 3, none⟩ = some (.int .i64 (sAt ss i).row) ∧
    w.cell? ⟨b, off + i * 3 + 1, none⟩ = some (.int .i64 (sAt ss i).col) ∧ w.cell? ⟨b, off + i * 3 + 2, none⟩ = some (.slice A' (sAt ss i).cs.length c') ∧ CelsT C t k w A' (sAt ss i).cs ∧ (sAt ss i).cs.length ≤ c' ∧ (A' = none → c' = 0) := by
  obtain ⟨l, rfl, hok, h⟩ := h
  rw [List.length_map] at hi
  rcases h with rfl | ⟨b, off, ha, hb, hc⟩
  · simp at hi
  · have hx : l[i]? = some l[i] := List.getElem?_eq_getElem hi
    have he : sAt (l.map (·.s)) i = l[i].s := by unfold sAt; rw [List.getD_eq_getElem?_getD, List.getElem?_map, hx]; rfl
    have g : ∀ d v, d < 3 → (saL l[i])[d]? = some v → w.cell? ⟨b, off + i * 3 + d, none⟩ = some v := by
      intro d v hd hv
      rw [Nat.add_assoc]
      exact hc _ v (by rw [flatS_get l i d hd, hx]; exact hv)
    have g0 := g 0 _ (by omega) rfl
    obtain ⟨o1, o2, o3⟩ := hok _ (List.getElem_mem hi)
    refine ⟨b, off, l[i].A, l[i].c, ha, block_lt_of_cell g0, ?_, ?_, ?_, ?_, ?_, ?_⟩
    · rw [he]; exact g0
    · rw [he]; exact g 1 _ (by omega) rfl
    · rw [he]; exact g 2 _ (by omega) rfl
    · rw [he]; exact o1
    · rw [he]; exact o2
    · exact o3
end

/-! ### rows of spans that a call makes -/
structure ElemS (P : Program) (S e : TypeId) (bytes : Nat) : Prop where
  under : P.underlying S = some (.slice e)
  info : (P.info? e).map (fun i => (i.zero, i.size, i.bytes)) = some (some (.agg #[.int .i64 0, .int .i64 0, .slice none 0 0]), 3, bytes)
theorem elemSp : ElemS Tryz.prog 31 47 40 := ⟨Tryz.underlying31, by kernel_rfl⟩
theorem elemRSp : ElemS Tryz.prog 36 87 40 := ⟨Tryz.underlying36, by kernel_rfl⟩
structure OwnS (C : Nat) (te t : TypeId) (k : IntKind) (B : Nat) (w wr : World) (v : Value) (ss : List Sp) : Prop where
  row : ∃ l : List Sa, l.map (·.s) = ss ∧ wr.ownsRow B te 3 v l.length (flatS l) ∧ ∀ x ∈ l, SaOk C t k wr x
  bel : Below B w wr
  le : B ≤ wr.heap.size
  cle : C ≤ B
section
variable {C : Nat} {te t : TypeId} {k : IntKind} {B : Nat} {w wr w1 : World} {v : Value} {ss : List Sp}
theorem OwnS.start (hB : B ≤ w.heap.size) (hC : C ≤ B) : OwnS C te t k B w w (.slice none 0 0) [] := ⟨⟨[], rfl, World.ownsRow_nil _ _ _ _, by simp⟩, Below.refl _ _, hB, hC⟩
theorem OwnS.from0 (hB : B ≤ wr.heap.size) (hb : Below B w wr) (hC : C ≤ B) : OwnS C te t k B w wr (.slice none 0 0) [] := ⟨⟨[], rfl, World.ownsRow_nil _ _ _ _, by simp⟩, hb, hB, hC⟩
theorem OwnS.now (h : OwnS C te t k B w wr v ss) : OwnS C te t k B wr wr v ss := ⟨h.row, Below.refl _ _, h.le, h.cle⟩
theorem OwnS.since (h : OwnS C te t k B wr wr v ss) (hb : Below B w wr) : OwnS C te t k B w wr v ss := ⟨h.row, hb, h.le, h.cle⟩
theorem OwnS.form (h : OwnS C te t k B w wr v ss) : ∃ A cap, v = .slice A ss.length cap ∧ Sps C te t k wr A ss ∧ ss.length ≤ cap ∧ (A = none → cap = 0) ∧ cap ≤ maxLen := by
  obtain ⟨l, rfl, ho, hok⟩ := h.row
  rw [List.length_map]
  rcases ho.2 with ⟨rfl, h0⟩ | ⟨g, cap, cur, rfl, _, hh, hc, hm, _, _⟩
  · have : l = [] := List.eq_nil_of_length_eq_zero h0
    subst this
    exact ⟨none, 0, rfl, .nil, Nat.le_refl _, fun _ => rfl, Nat.zero_le _⟩
  · refine ⟨_, cap, rfl, ⟨l, rfl, hok, .inr ⟨g, 0, rfl, .inr ⟨cur, hh⟩, fun i v hi => ?_⟩⟩, hc, (fun h => by cases h), hm⟩
    have := ho.cells (g := g) rfl i v hi
    rwa [show (⟨g, 0, none⟩ : Addr).add i = ⟨g, 0 + i, none⟩ by unfold Addr.add; split <;> simp_all] at this
theorem OwnS.slice (h : OwnS C te t k B w wr v ss) : ∃ A n cap, v = .slice A n cap := by obtain ⟨A, cap, e, _⟩ := h.form; exact ⟨A, _, cap, e⟩
/-- Where blocks of its types, and those below C, stay. -/
theorem OwnS.keep (h : OwnS C te t k B wr wr v ss) (hl : ∀ b, b < C → w1.heap[b]? = wr.heap[b]?) (hs : Stays t wr w1) (ht : Stays te wr w1) (hz : wr.heap.size ≤ w1.heap.size) : OwnS C te t k B w1 w1 v ss := by
  obtain ⟨l, he, ho, hok⟩ := h.row
  refine ⟨⟨l, he, ⟨ho.1, ?_⟩, fun x hx => (hok x hx).keep hl hs⟩, Below.refl _ _, Nat.le_trans h.le hz, h.cle⟩
  rcases ho.2 with h0 | ⟨g, cap, cur, hv, hB, hh, h1⟩
  · exact .inl h0
  · exact .inr ⟨g, cap, cur, hv, hB, (ht g cur hh).trans hh, h1⟩
theorem OwnS.later (h : OwnS C te t k B w wr v ss) (hb : Below wr.heap.size wr w1) : OwnS C te t k B w w1 v ss :=
  (h.now.keep (fun b hlt => hb.block b (by have := h.le; have := h.cle; omega)) (.of_below hb) (.of_below hb) hb.size).since (h.bel.trans (hb.mono h.le))
theorem OwnS.alloc (h : OwnS C te t k B w wr v ss) (o : Obj) : OwnS C te t k B w (wr.alloc o) v ss := h.later ((Below.refl _ _).alloc (Nat.le_refl _) _)
/-- A store into a block of another type. -/
theorem OwnS.put (h : OwnS C te t k B w wr v ss) {g i : Nat} {t' : TypeId} {l : List Value} {u : Value} (hw : Whole wr g t' l) (h1 : t' ≠ t) (h2 : t' ≠ te) (hg : B ≤ g) : OwnS C te t k B w (wr.setCell ⟨g, i, none⟩ u) v ss :=
  (h.now.keep (fun b hlt => Below.heap_setCell _ _ _ _ (by have := h.cle; simp; omega)) (Stays.put hw (Ne.symm h1)) (Stays.put hw (Ne.symm h2)) (by simp [World.setCell])).since (h.bel.setCell (p := ⟨g, i, none⟩) hg u)
theorem OwnS.grown {v' : Value} {l : List Sa} {ns : List Sa} (h : OwnS C te t k B w wr v ss) (he : l.map (·.s) = ss) (hrow : wr.ownsRow B te 3 v l.length (flatS l)) (hok : ∀ x ∈ l, SaOk C t k wr x) (hns : ∀ x ∈ ns, SaOk C t k wr x) (h3 : te ≠ t)
    (h1 : w1.ownsRow B te 3 v' (l.length + ns.length) (flatS l ++ flatS ns)) (hg : wr.grownBy w1 v.ownBlock) : OwnS C te t k B w w1 v' (ss ++ ns.map (·.s)) ∧ (∀ t', t' ≠ te → Stays t' wr w1) ∧ Below B wr w1 := by
  have far : ∀ t', t' ≠ te → Stays t' wr w1 := by
    intro t' ht g cur hh
    refine hg.block g (Array.getElem?_eq_some_iff.1 hh).1 ?_
    intro q
    rcases hrow.2 with ⟨rfl, _⟩ | ⟨g2, cap, cur2, rfl, _, hh2, _⟩
    · cases q
    · have : g = g2 := by simpa [Value.ownBlock] using q
      subst this
      rw [hh] at hh2
      simp only [Option.some.injEq, Obj.cells.injEq] at hh2
      exact ht hh2.2.1
  have hb1 : Below B wr w1 := (Below.refl _ _).grown hg h.le (own_ge hrow)
  have low : ∀ b, b < C → w1.heap[b]? = wr.heap[b]? := fun b hlt => hb1.block b (by have := h.cle; omega)
  refine ⟨⟨⟨l ++ ns, by rw [List.map_append, he], by simpa [flatS_append] using h1, ?_⟩, h.bel.grown hg h.le (own_ge hrow), Nat.le_trans h.le hg.size, h.cle⟩, far, hb1⟩
  intro x hx
  rcases List.mem_append.1 hx with q | q
  · exact (hok x q).keep low (far t (Ne.symm h3))
  · exact (hns x q).keep low (far t (Ne.symm h3))
end
theorem cells_new3S (w : World) (l : List Value) (t : TypeId) : ∀ j u, l[j]? = some u → (w.alloc (.cells l.toArray t)).cell? ((⟨w.heap.size, 0, none⟩ : Addr).add j) = some u := by
  intro j u hj
  rw [show (⟨w.heap.size, 0, none⟩ : Addr).add j = ⟨w.heap.size, j, none⟩ by unfold Addr.add; split <;> simp_all, (Whole.new w t l).cell j, hj]
/-- 'append(row, s)', s in a block of its own. -/
theorem wpList_pushS {P : Program} {S te t : TypeId} {k : IntKind} {bytes : Nat} (E : ElemS P S te bytes) {ops : Array Oper} {rest : List Oper} {o : Oper} {a : Act} {Q : Exit → Act → World → Prop} {C B : Nat} {w wr : World} {v : Value} {ss : List Sp} (r cl : Int) (N : Option Addr) (c : Nat) (cs : List Cel) (n : Nat) (hn : cs.length = n) (hi : CelsT C t k wr N cs) (hnc : n ≤ c) (h0 : N = none → c = 0)
    (hgd : Region.wanted o (yielded ops a.tmps) = true) (s y : Operand) (ho : o.op = .call { callee := .builtin .append, args := #[s, y], argTypes := #[S, S] })
    (hs : a.eval s = v) (hy : a.eval y = .slice (some ⟨wr.heap.size, 0, none⟩) 1 1) (hown : OwnS C te t k B w wr v ss) (hlen : ss.length ≤ 1000000) (hby : bytes ≤ 1000) (h3 : te ≠ t)
    (h : ∀ v' w1, OwnS C te t k B w w1 v' (ss ++ [⟨r, cl, cs⟩]) → (∀ t', t' ≠ te → Stays t' (wr.alloc (.cells #[.int .i64 r, .int .i64 cl, .slice N n c] te)) w1) → Below B (wr.alloc (.cells #[.int .i64 r, .int .i64 cl, .slice N n c] te)) w1 → wpList P ops Q rest (a.put o.dst v') w1) :
    wpList P ops Q (o :: rest) a (wr.alloc (.cells #[.int .i64 r, .int .i64 cl, .slice N n c] te)) := by
  subst hn
  obtain ⟨i0, hi0, hz0, hz1, hz2⟩ := info_parts E.info
  have hown' := hown.alloc (.cells #[.int .i64 r, .int .i64 cl, .slice N cs.length c] te)
  obtain ⟨l, he, hrow, hok⟩ := hown'.row
  have hl : l.length = ss.length := by rw [← he, List.length_map]
  have hb : (l.length + 1) * bytes ≤ 1000001 * 1000 := Nat.mul_le_mul (by omega) hby
  have hx : SaOk C t k (wr.alloc (.cells #[.int .i64 r, .int .i64 cl, .slice N cs.length c] te)) ⟨⟨r, cl, cs⟩, N, c⟩ := ⟨hi.below ((Below.refl _ _).alloc (Nat.le_refl _) _) (by have := hown.le; have := hown.cle; omega), hnc, h0⟩
  refine wpList_want hgd fun K hK => ?_
  refine wp_append_own _ s y S ho B te i0 _ 3 bytes E.under hi0 hz0 hz1 hz2 rfl (by decide) v l.length _ hs hrow ⟨wr.heap.size, 0, none⟩ 1 1 (saL ⟨⟨r, cl, cs⟩, N, c⟩) hy rfl (cells_new3S _ (saL ⟨⟨r, cl, cs⟩, N, c⟩) te) (by have := flatS_one [⟨⟨r, cl, cs⟩, N, c⟩]; simpa [flatS] using this)
    (by unfold maxLen; omega) (by omega) (by have := hown.le; simp; omega) ?_
  intro v' w1 h1 hg _
  obtain ⟨q1, q2, q3⟩ := hown'.grown (ns := [⟨⟨r, cl, cs⟩, N, c⟩]) he hrow hok (by intro x hx'; simp at hx'; subst hx'; exact hx) h3 (by simpa [flatS] using h1) hg
  exact hK _ _ (h v' w1 q1 q2 q3)

/-! ### differences -/
/-- A struct of the program's or the document's: a difference. -/
def dV (d : Df) (A : Option Addr) (c : Nat) : Value := .agg #[.int .i64 d.rows, .int .i64 d.cols, .int .i64 d.row, .int .i64 d.col, .slice A d.ss.length c]
/-- What is known of one. -/
structure DfOk (C : Nat) (te t : TypeId) (k : IntKind) (w : World) (d : Df) (A : Option Addr) (c : Nat) : Prop where
  sps : Sps C te t k w A d.ss
  cap : d.ss.length ≤ c
  none : A = none → c = 0
  cle : C ≤ w.heap.size
theorem DfOk.below {C : Nat} {te t : TypeId} {k : IntKind} {w w' : World} {d : Df} {A : Option Addr} {c : Nat} (h : DfOk C te t k w d A c) (hb : Below w.heap.size w w') : DfOk C te t k w' d A c := ⟨h.sps.below hb h.cle, h.cap, h.none, Nat.le_trans h.cle hb.size⟩
/-- The call gave this difference, and left all that was there. -/
def GaveDf (te t : TypeId) (k : IntKind) (d : Df) (w : World) (e : Ending) (w' : World) : Prop := ∃ A c, e = .returned (.agg #[.int .i64 d.rows, .int .i64 d.cols, .int .i64 d.row, .int .i64 d.col, .slice A d.ss.length c]) ∧ DfOk w.heap.size te t k w' d A c ∧ Below w.heap.size w w'
theorem cells5 {w : World} {q : Nat} {t : TypeId} {x0 x1 x2 x3 x4 : Value} (h : Whole w q t [x0, x1, x2, x3, x4]) : w.cell? ⟨q, 0, none⟩ = some x0 ∧ w.cell? ⟨q, 1, none⟩ = some x1 ∧ w.cell? ⟨q, 2, none⟩ = some x2 ∧ w.cell? ⟨q, 3, none⟩ = some x3 ∧ w.cell? ⟨q, 4, none⟩ = some x4 ∧ q < w.heap.size :=
  ⟨h.cell 0, h.cell 1, h.cell 2, h.cell 3, h.cell 4, h.lt⟩
end Go.Proofs.YtoddfaoifnkhlaaGreatDoor
