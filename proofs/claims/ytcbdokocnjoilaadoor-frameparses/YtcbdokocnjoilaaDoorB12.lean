/-
  Contracts and plain mathematics of DMem, RnTake5.
-/
import Derived.Test.YtcbdokocnjoilaaDoorB11
import Derived.OwnWalk
import Derived.Laws.OwnMore
import Derived.Test.YtcbdokocnjoilaaDoorB9
import Derived.Test.YtcbdokocnjoilaaDoorB10
import Derived.Test.YtcbdokocnjoilaaDoorB5
namespace Go.Proofs.YtcbdokocnjoilaaDoor
set_option maxRecDepth 100000
set_option linter.unusedVariables false
set_option maxHeartbeats 8000000
section
open Go.ChangeShapes Go.WideShapes Go.ChangeAt Go.RowKit
/-! ### cells in blocks of a type, or below C -/
def CelsT (C : Nat) (t : TypeId) (k : IntKind) (w : World) (a : Option Addr) (cs : List Cel) : Prop :=
  cs = [] ∨ ∃ b off, a = some ⟨b, off, none⟩ ∧ (b < C ∨ ∃ cur, w.heap[b]? = some (Obj.cells cur t (0, 0))) ∧ ∀ j v, (flatC k cs)[j]? = some v → w.cell? ⟨b, off + j, none⟩ = some v
section
variable {C : Nat} {t : TypeId} {k : IntKind} {w w' : World} {a : Option Addr} {cs : List Cel}
theorem CelsT.nil : CelsT C t k w a [] := .inl rfl
theorem CelsT.cels (h : CelsT C t k w a cs) : Cels k w a cs := by
  rcases h with h | ⟨b, off, ha, _, hc⟩
  · exact .inl h
  · exact .inr ⟨b, off, ha, hc⟩
theorem CelsT.of_cels (h : Cels k w a cs) : CelsT w.heap.size t k w a cs := by
  rcases h with h | ⟨b, off, ha, hc⟩
  · exact .inl h
  · by_cases q : cs = []
    · exact .inl q
    · have : ∃ v, (flatC k cs)[0]? = some v := by
        have hl := flatC_len k cs
        have : 0 < cs.length := List.length_pos_iff.2 q
        exact ⟨_, List.getElem?_eq_getElem (by omega)⟩
      obtain ⟨v, hv⟩ := this
      exact .inr ⟨b, off, ha, .inl (block_lt_of_cell (hc 0 v hv)), hc⟩
theorem CelsT.keep (h : CelsT C t k w a cs) (hl : ∀ b, b < C → w'.heap[b]? = w.heap[b]?) (hs : Stays t w w') : CelsT C t k w' a cs := by
  rcases h with h | ⟨b, off, ha, hb, hc⟩
  · exact .inl h
  · have e : w'.heap[b]? = w.heap[b]? := by
      rcases hb with hb | ⟨cur, hb⟩
      · exact hl b hb
      · exact hs b cur hb
    refine .inr ⟨b, off, ha, ?_, fun j v hj => ?_⟩
    · rcases hb with hb | ⟨cur, hb⟩
      · exact .inl hb
      · exact .inr ⟨cur, e.trans hb⟩
    · rw [← hc j v hj]; simp only [World.cell?, e]
theorem CelsT.below (h : CelsT C t k w a cs) (hb : Below w.heap.size w w') (hC : C ≤ w.heap.size) : CelsT C t k w' a cs := h.keep (fun b hlt => hb.block b (by omega)) (.of_below hb)
theorem CelsT.more {C' : Nat} (h : CelsT C t k w a cs) (hC : C ≤ C') : CelsT C' t k w a cs := by
  rcases h with h | ⟨b, off, ha, hb, hc⟩
  · exact .inl h
  · exact .inr ⟨b, off, ha, by rcases hb with q | q; exact .inl (by omega); exact .inr q, hc⟩
theorem CelsT.take (h : CelsT C t k w a cs) (n : Nat) : CelsT C t k w a (cs.take n) := by
  rcases h with h | ⟨b, off, ha, hb, hc⟩
  · exact .inl (by simp [h])
  · refine .inr ⟨b, off, ha, hb, fun j v hj => ?_⟩
    rw [flatC_take, List.getElem?_take] at hj
    split at hj
    · exact hc j v hj
    · cases hj
theorem flat_from {b off n : Nat} (h : ∀ j v, (flatC k cs)[j]? = some v → w.cell? ⟨b, off + j, none⟩ = some v) : ∀ j v, (flatC k (cs.drop n))[j]? = some v → w.cell? ⟨b, off + n * 7 + j, none⟩ = some v := by
  intro j v hj
  rw [flatC_drop, List.getElem?_drop] at hj
  rw [Nat.add_assoc]
  exact h _ v hj
/-- A part of a row, known by its place. -/
theorem CelsT.from {b off : Nat} (h : CelsT C t k w (some ⟨b, off, none⟩) cs) (n : Nat) : CelsT C t k w (some ⟨b, off + n * 7, none⟩) (cs.drop n) := by
  rcases h with h | ⟨b', off', ha, hb, hc⟩
  · exact .inl (by simp [h])
  · cases ha
    exact .inr ⟨b, off + n * 7, rfl, hb, flat_from hc⟩
theorem OwnC.typed {B : Nat} {wr : World} {v : Value} (h : OwnC t k B w wr v cs) : ∃ A cap, v = .slice A cs.length cap ∧ CelsT C t k wr A cs ∧ cs.length ≤ cap ∧ (A = none → cap = 0) ∧ cap ≤ maxLen := by
  obtain ⟨A, cap, rfl, hc, h1, h2, h3⟩ := h.form
  refine ⟨A, cap, rfl, ?_, h1, h2, h3⟩
  rcases h.own.2 with ⟨e, h0⟩ | ⟨g, cap', cur, e, _, hh, _, _, _, _⟩
  · exact .inl (List.eq_nil_of_length_eq_zero h0)
  · simp only [Value.slice.injEq] at e
    obtain ⟨rfl, -, -⟩ := e
    rcases hc with hc | ⟨b, off, ha, hc⟩
    · exact .inl hc
    · cases ha
      exact .inr ⟨_, _, rfl, .inr ⟨cur, hh⟩, hc⟩
end

/-! ### spans -/
/-- A span, and where its cells lie. -/
structure Sa where
  s : Sp
  A : Option Addr
  c : Nat
def saL (x : Sa) : List Value := [.int .i64 x.s.row, .int .i64 x.s.col, .slice x.A x.s.cs.length x.c]
def flatS (l : List Sa) : List Value := l.flatMap saL
def SaOk (C : Nat) (t : TypeId) (k : IntKind) (w : World) (x : Sa) : Prop := CelsT C t k w x.A x.s.cs ∧ x.s.cs.length ≤ x.c ∧ (x.A = none → x.c = 0)
theorem flatS_len (l : List Sa) : (flatS l).length = l.length * 3 := by
  induction l with
  | nil => rfl
  | cons c cs ih => unfold flatS at ih ⊢; rw [List.flatMap_cons, List.length_append, ih, List.length_cons]; show 3 + _ = _; omega
theorem flatS_append (a b : List Sa) : flatS (a ++ b) = flatS a ++ flatS b := by unfold flatS; simp
theorem flatS_get (l : List Sa) : ∀ (i d : Nat), d < 3 → (flatS l)[i * 3 + d]? = (l[i]?).bind (fun c => (saL c)[d]?) := by
  induction l with
  | nil => intro i d _; simp [flatS]
  | cons c cs ih =>
    intro i d hd
    have hl : (saL c).length = 3 := rfl
    unfold flatS at ih ⊢
    rw [List.flatMap_cons]
    cases i with
    | zero => rw [List.getElem?_append_left (by omega)]; simp
    | succ i =>
      rw [List.getElem?_append_right (by omega), hl, show (i + 1) * 3 + d - 3 = i * 3 + d by omega, ih i d hd]
      simp
theorem flatS_one (l : List Sa) : ∀ u ∈ flatS l, u.oneCell' = true := by
  intro u hu
  unfold flatS at hu
  obtain ⟨c, _, hc⟩ := List.mem_flatMap.1 hu
  simp only [saL, List.mem_cons, List.not_mem_nil, or_false] at hc
  rcases hc with rfl | rfl | rfl <;> rfl
theorem SaOk.keep {C : Nat} {t : TypeId} {k : IntKind} {w w' : World} {x : Sa} (h : SaOk C t k w x) (hl : ∀ b, b < C → w'.heap[b]? = w.heap[b]?) (hs : Stays t w w') : SaOk C t k w' x := ⟨h.1.keep hl hs, h.2⟩

/-- A slice of spans, in a block of type te or below C; their cells in blocks of type t or below C. -/
def Sps (C : Nat) (te t : TypeId) (k : IntKind) (w : World) (A : Option Addr) (ss : List Sp) : Prop :=
  ∃ l : List Sa, l.map (·.s) = ss ∧ (∀ x ∈ l, SaOk C t k w x) ∧ (l = [] ∨ ∃ b off, A = some ⟨b, off, none⟩ ∧ (b < C ∨ ∃ cur, w.heap[b]? = some (Obj.cells cur te (0, 0))) ∧ ∀ j v, (flatS l)[j]? = some v → w.cell? ⟨b, off + j, none⟩ = some v)
section
variable {C : Nat} {te t : TypeId} {k : IntKind} {w w' : World} {A : Option Addr} {ss : List Sp}
theorem Sps.nil : Sps C te t k w A [] := ⟨[], rfl, by simp, .inl rfl⟩
theorem Sps.keep (h : Sps C te t k w A ss) (hl : ∀ b, b < C → w'.heap[b]? = w.heap[b]?) (hs : Stays t w w') (ht : Stays te w w') : Sps C te t k w' A ss := by
  obtain ⟨l, he, hok, h⟩ := h
  refine ⟨l, he, fun x hx => (hok x hx).keep hl hs, ?_⟩
  rcases h with h | ⟨b, off, ha, hb, hc⟩
  · exact .inl h
  · have e : w'.heap[b]? = w.heap[b]? := by
      rcases hb with hb | ⟨cur, hb⟩
      · exact hl b hb
      · exact ht b cur hb
    refine .inr ⟨b, off, ha, ?_, fun j v hj => ?_⟩
    · rcases hb with hb | ⟨cur, hb⟩
      · exact .inl hb
      · exact .inr ⟨cur, e.trans hb⟩
    · rw [← hc j v hj]; simp only [World.cell?, e]
theorem Sps.below (h : Sps C te t k w A ss) (hb : Below w.heap.size w w') (hC : C ≤ w.heap.size) : Sps C te t k w' A ss := h.keep (fun b hlt => hb.block b (by omega)) (.of_below hb) (.of_below hb)
theorem Sps.at (h : Sps C te t k w A ss) {i : Nat} (hi : i < ss.length) : ∃ b off A' c', A = some ⟨b, off, none⟩ ∧ b < w.heap.size ∧ w.cell? ⟨b, off + i * 3, none⟩ = some (.int .i64 (sAt ss i).row) ∧
    w.cell? ⟨b, off + i * 3 + 1, none⟩ = some (.int .i64 (sAt ss i).col) ∧ w.cell? ⟨b, off + i * 3 + 2, none⟩ = some (.slice A' (sAt ss i).cs.length c') ∧ CelsT C t k w A' (sAt ss i).cs ∧ (sAt ss i).cs.length ≤ c' ∧ (A' = none → c' = 0) := by
  obtain ⟨l, rfl, hok, h⟩ := h
  rw [List.length_map] at hi
  rcases h with rfl | ⟨b, off, ha, hb, hc⟩
  · simp at hi
  · have hx : l[i]? = some l[i] := List.getElem?_eq_getElem hi
    have he : sAt (l.map (·.s)) i = l[i].s := by unfold sAt; rw [List.getD_eq_getElem?_getD, List.getElem?_map, hx]; rfl
    have g : ∀ d v, d < 3 → (saL l[i])[d]? = some v → w.cell? ⟨b, off + i * 3 + d, none⟩ = some v := by
      intro d v hd hv
      rw [Nat.add_assoc]
      exact hc _ v (by rw [flatS_get l i d hd, hx]; exact hv)
    have g0 := g 0 _ (by omega) rfl
    obtain ⟨o1, o2, o3⟩ := hok _ (List.getElem_mem hi)
    refine ⟨b, off, l[i].A, l[i].c, ha, block_lt_of_cell g0, ?_, ?_, ?_, ?_, ?_, ?_⟩
    · rw [he]; exact g0
    · rw [he]; exact g 1 _ (by omega) rfl
    · rw [he]; exact g 2 _ (by omega) rfl
    · rw [he]; exact o1
    · rw [he]; exact o2
    · exact o3
end

/-! ### rows of spans that a call makes -/
structure ElemS (P : Program) (S e : TypeId) (bytes : Nat) : Prop where
  under : P.underlying S = some (.slice e)
  info : (P.info? e).map (fun i => (i.zero, i.size, i.bytes)) = some (some (.agg #[.int .i64 0, .int .i64 0, .slice none 0 0]), 3, bytes)
theorem elemSp : ElemS Tryd.prog 24 88 40 := ⟨Tryd.underlying24, by kernel_rfl⟩
theorem elemRSp : ElemS Tryd.prog 32 81 40 := ⟨Tryd.underlying32, by kernel_rfl⟩
structure OwnS (C : Nat) (te t : TypeId) (k : IntKind) (B : Nat) (w wr : World) (v : Value) (ss : List Sp) : Prop where
  row : ∃ l : List Sa, l.map (·.s) = ss ∧ wr.ownsRow B te 3 v l.length (flatS l) ∧ ∀ x ∈ l, SaOk C t k wr x
  bel : Below B w wr
  le : B ≤ wr.heap.size
  cle : C ≤ B
section
variable {C : Nat} {te t : TypeId} {k : IntKind} {B : Nat} {w wr w1 : World} {v : Value} {ss : List Sp}
theorem OwnS.start (hB : B ≤ w.heap.size) (hC : C ≤ B) : OwnS C te t k B w w (.slice none 0 0) [] := ⟨⟨[], rfl, World.ownsRow_nil _ _ _ _, by simp⟩, Below.refl _ _, hB, hC⟩
theorem OwnS.from0 (hB : B ≤ wr.heap.size) (hb : Below B w wr) (hC : C ≤ B) : OwnS C te t k B w wr (.slice none 0 0) [] := ⟨⟨[], rfl, World.ownsRow_nil _ _ _ _, by simp⟩, hb, hB, hC⟩
theorem OwnS.now (h : OwnS C te t k B w wr v ss) : OwnS C te t k B wr wr v ss := ⟨h.row, Below.refl _ _, h.le, h.cle⟩
theorem OwnS.since (h : OwnS C te t k B wr wr v ss) (hb : Below B w wr) : OwnS C te t k B w wr v ss := ⟨h.row, hb, h.le, h.cle⟩
theorem OwnS.form (h : OwnS C te t k B w wr v ss) : ∃ A cap, v = .slice A ss.length cap ∧ Sps C te t k wr A ss ∧ ss.length ≤ cap ∧ (A = none → cap = 0) ∧ cap ≤ maxLen := by
  obtain ⟨l, rfl, ho, hok⟩ := h.row
  rw [List.length_map]
  rcases ho.2 with ⟨rfl, h0⟩ | ⟨g, cap, cur, rfl, _, hh, hc, hm, _, _⟩
  · have : l = [] := List.eq_nil_of_length_eq_zero h0
    subst this
    exact ⟨none, 0, rfl, .nil, Nat.le_refl _, fun _ => rfl, Nat.zero_le _⟩
  · refine ⟨_, cap, rfl, ⟨l, rfl, hok, .inr ⟨g, 0, rfl, .inr ⟨cur, hh⟩, fun i v hi => ?_⟩⟩, hc, (fun h => by cases h), hm⟩
    have := ho.cells (g := g) rfl i v hi
    rwa [show (⟨g, 0, none⟩ : Addr).add i = ⟨g, 0 + i, none⟩ by unfold Addr.add; split <;> simp_all] at this
theorem OwnS.slice (h : OwnS C te t k B w wr v ss) : ∃ A n cap, v = .slice A n cap := by obtain ⟨A, cap, e, _⟩ := h.form; exact ⟨A, _, cap, e⟩
/-- Where blocks of its types, and those below C, stay. -/
theorem OwnS.keep (h : OwnS C te t k B wr wr v ss) (hl : ∀ b, b < C → w1.heap[b]? = wr.heap[b]?) (hs : Stays t wr w1) (ht : Stays te wr w1) (hz : wr.heap.size ≤ w1.heap.size) : OwnS C te t k B w1 w1 v ss := by
  obtain ⟨l, he, ho, hok⟩ := h.row
  refine ⟨⟨l, he, ⟨ho.1, ?_⟩, fun x hx => (hok x hx).keep hl hs⟩, Below.refl _ _, Nat.le_trans h.le hz, h.cle⟩
  rcases ho.2 with h0 | ⟨g, cap, cur, hv, hB, hh, h1⟩
  · exact .inl h0
  · exact .inr ⟨g, cap, cur, hv, hB, (ht g cur hh).trans hh, h1⟩
theorem OwnS.later (h : OwnS C te t k B w wr v ss) (hb : Below wr.heap.size wr w1) : OwnS C te t k B w w1 v ss :=
  (h.now.keep (fun b hlt => hb.block b (by have := h.le; have := h.cle; omega)) (.of_below hb) (.of_below hb) hb.size).since (h.bel.trans (hb.mono h.le))
theorem OwnS.alloc (h : OwnS C te t k B w wr v ss) (o : Obj) : OwnS C te t k B w (wr.alloc o) v ss := h.later ((Below.refl _ _).alloc (Nat.le_refl _) _)
/-- A store into a block of another type. -/
theorem OwnS.put (h : OwnS C te t k B w wr v ss) {g i : Nat} {t' : TypeId} {l : List Value} {u : Value} (hw : Whole wr g t' l) (h1 : t' ≠ t) (h2 : t' ≠ te) (hg : B ≤ g) : OwnS C te t k B w (wr.setCell ⟨g, i, none⟩ u) v ss :=
  (h.now.keep (fun b hlt => Below.heap_setCell _ _ _ _ (by have := h.cle; simp; omega)) (Stays.put hw (Ne.symm h1)) (Stays.put hw (Ne.symm h2)) (by simp [World.setCell])).since (h.bel.setCell (p := ⟨g, i, none⟩) hg u)
theorem OwnS.grown {v' : Value} {l : List Sa} {ns : List Sa} (h : OwnS C te t k B w wr v ss) (he : l.map (·.s) = ss) (hrow : wr.ownsRow B te 3 v l.length (flatS l)) (hok : ∀ x ∈ l, SaOk C t k wr x) (hns : ∀ x ∈ ns, SaOk C t k wr x) (h3 : te ≠ t)
    (h1 : w1.ownsRow B te 3 v' (l.length + ns.length) (flatS l ++ flatS ns)) (hg : wr.grownBy w1 v.ownBlock) : OwnS C te t k B w w1 v' (ss ++ ns.map (·.s)) ∧ (∀ t', t' ≠ te → Stays t' wr w1) ∧ Below B wr w1 := by
  have far : ∀ t', t' ≠ te → Stays t' wr w1 := by
    intro t' ht g cur hh
    refine hg.block g (Array.getElem?_eq_some_iff.1 hh).1 ?_
    intro q
    rcases hrow.2 with ⟨rfl, _⟩ | ⟨g2, cap, cur2, rfl, _, hh2, _⟩
    · cases q
    · have : g = g2 := by simpa [Value.ownBlock] using q
      subst this
      rw [hh] at hh2
      simp only [Option.some.injEq, Obj.cells.injEq] at hh2
      exact ht hh2.2.1
  have hb1 : Below B wr w1 := (Below.refl _ _).grown hg h.le (own_ge hrow)
  have low : ∀ b, b < C → w1.heap[b]? = wr.heap[b]? := fun b hlt => hb1.block b (by have := h.cle; omega)
  refine ⟨⟨⟨l ++ ns, by rw [List.map_append, he], by simpa [flatS_append] using h1, ?_⟩, h.bel.grown hg h.le (own_ge hrow), Nat.le_trans h.le hg.size, h.cle⟩, far, hb1⟩
  intro x hx
  rcases List.mem_append.1 hx with q | q
  · exact (hok x q).keep low (far t (Ne.symm h3))
  · exact (hns x q).keep low (far t (Ne.symm h3))
end
theorem cells_new3S (w : World) (l : List Value) (t : TypeId) : ∀ j u, l[j]? = some u → (w.alloc (.cells l.toArray t)).cell? ((⟨w.heap.size, 0, none⟩ : Addr).add j) = some u := by
  intro j u hj
  rw [show (⟨w.heap.size, 0, none⟩ : Addr).add j = ⟨w.heap.size, j, none⟩ by unfold Addr.add; split <;> simp_all, (Whole.new w t l).cell j, hj]
/-- 'append(row, s)', s in a block of its own. -/
theorem wpList_pushS {P : Program} {S te t : TypeId} {k : IntKind} {bytes : Nat} (E : ElemS P S te bytes) {ops : Array Oper} {rest : List Oper} {o : Oper} {a : Act} {Q : Exit → Act → World → Prop} {C B : Nat} {w wr : World} {v : Value} {ss : List Sp} (r cl : Int) (N : Option Addr) (c : Nat) (cs : List Cel) (n : Nat) (hn : cs.length = n) (hi : CelsT C t k wr N cs) (hnc : n ≤ c) (h0 : N = none → c = 0)
    (hgd : Region.wanted o (yielded ops a.tmps) = true) (s y : Operand) (ho : o.op = .call { callee := .builtin .append, args := #[s, y], argTypes := #[S, S] })
    (hs : a.eval s = v) (hy : a.eval y = .slice (some ⟨wr.heap.size, 0, none⟩) 1 1) (hown : OwnS C te t k B w wr v ss) (hlen : ss.length ≤ 1000000) (hby : bytes ≤ 1000) (h3 : te ≠ t)
    (h : ∀ v' w1, OwnS C te t k B w w1 v' (ss ++ [⟨r, cl, cs⟩]) → (∀ t', t' ≠ te → Stays t' (wr.alloc (.cells #[.int .i64 r, .int .i64 cl, .slice N n c] te)) w1) → Below B (wr.alloc (.cells #[.int .i64 r, .int .i64 cl, .slice N n c] te)) w1 → wpList P ops Q rest (a.put o.dst v') w1) :
    wpList P ops Q (o :: rest) a (wr.alloc (.cells #[.int .i64 r, .int .i64 cl, .slice N n c] te)) := by
  subst hn
  obtain ⟨i0, hi0, hz0, hz1, hz2⟩ := info_parts E.info
  have hown' := hown.alloc (.cells #[.int .i64 r, .int .i64 cl, .slice N cs.length c] te)
  obtain ⟨l, he, hrow, hok⟩ := hown'.row
  have hl : l.length = ss.length := by rw [← he, List.length_map]
  have hb : (l.length + 1) * bytes ≤ 1000001 * 1000 := Nat.mul_le_mul (by omega) hby
  have hx : SaOk C t k (wr.alloc (.cells #[.int .i64 r, .int .i64 cl, .slice N cs.length c] te)) ⟨⟨r, cl, cs⟩, N, c⟩ := ⟨hi.below ((Below.refl _ _).alloc (Nat.le_refl _) _) (by have := hown.le; have := hown.cle; omega), hnc, h0⟩
  refine wpList_want hgd fun K hK => ?_
  refine wp_append_own _ s y S ho B te i0 _ 3 bytes E.under hi0 hz0 hz1 hz2 rfl (by decide) v l.length _ hs hrow ⟨wr.heap.size, 0, none⟩ 1 1 (saL ⟨⟨r, cl, cs⟩, N, c⟩) hy rfl (cells_new3S _ (saL ⟨⟨r, cl, cs⟩, N, c⟩) te) (by have := flatS_one [⟨⟨r, cl, cs⟩, N, c⟩]; simpa [flatS] using this)
    (by unfold maxLen; omega) (by omega) (by have := hown.le; simp; omega) ?_
  intro v' w1 h1 hg _
  obtain ⟨q1, q2, q3⟩ := hown'.grown (ns := [⟨⟨r, cl, cs⟩, N, c⟩]) he hrow hok (by intro x hx'; simp at hx'; subst hx'; exact hx) h3 (by simpa [flatS] using h1) hg
  exact hK _ _ (h v' w1 q1 q2 q3)

/-! ### differences -/
/-- A struct of the program's or the document's: a difference. -/
def dV (d : Df) (A : Option Addr) (c : Nat) : Value := .agg #[.int .i64 d.rows, .int .i64 d.cols, .int .i64 d.row, .int .i64 d.col, .slice A d.ss.length c]
/-- What is known of one. -/
structure DfOk (C : Nat) (te t : TypeId) (k : IntKind) (w : World) (d : Df) (A : Option Addr) (c : Nat) : Prop where
  sps : Sps C te t k w A d.ss
  cap : d.ss.length ≤ c
  none : A = none → c = 0
  cle : C ≤ w.heap.size
theorem DfOk.below {C : Nat} {te t : TypeId} {k : IntKind} {w w' : World} {d : Df} {A : Option Addr} {c : Nat} (h : DfOk C te t k w d A c) (hb : Below w.heap.size w w') : DfOk C te t k w' d A c := ⟨h.sps.below hb h.cle, h.cap, h.none, Nat.le_trans h.cle hb.size⟩
/-- The call gave this difference, and left all that was there. -/
def GaveDf (te t : TypeId) (k : IntKind) (d : Df) (w : World) (e : Ending) (w' : World) : Prop := ∃ A c, e = .returned (.agg #[.int .i64 d.rows, .int .i64 d.cols, .int .i64 d.row, .int .i64 d.col, .slice A d.ss.length c]) ∧ DfOk w.heap.size te t k w' d A c ∧ Below w.heap.size w w'
theorem cells5 {w : World} {q : Nat} {t : TypeId} {x0 x1 x2 x3 x4 : Value} (h : Whole w q t [x0, x1, x2, x3, x4]) : w.cell? ⟨q, 0, none⟩ = some x0 ∧ w.cell? ⟨q, 1, none⟩ = some x1 ∧ w.cell? ⟨q, 2, none⟩ = some x2 ∧ w.cell? ⟨q, 3, none⟩ = some x3 ∧ w.cell? ⟨q, 4, none⟩ = some x4 ∧ q < w.heap.size :=
  ⟨h.cell 0, h.cell 1, h.cell 2, h.cell 3, h.cell 4, h.lt⟩
/-- 'append(row, src...)', src whatever; what it left. -/
theorem wpList_catCG {P : Program} {S e : TypeId} {k : IntKind} {bytes : Nat} (E : ElemC P S e k bytes) {ops : Array Oper} {rest : List Oper} {o : Oper} {a : Act} {Q : Exit → Act → World → Prop} {B : Nat} {w wr : World} {v : Value} {cs ns : List Cel} {A : Option Addr} {n c : Nat}
    (hgd : Region.wanted o (yielded ops a.tmps) = true) (s y : Operand) (ho : o.op = .call { callee := .builtin .append, args := #[s, y], argTypes := #[S, S] })
    (hs : a.eval s = v) (hy : a.eval y = .slice A n c) (hown : OwnC e k B w wr v cs) (hns : Cels k wr A ns) (hn : ns.length = n) (hc : A = none → c = 0) (hlen : cs.length + n ≤ 1000000) (hby : bytes ≤ 1000)
    (h : ∀ v' w1, OwnC e k B w w1 v' (cs ++ ns) → wr.grownBy w1 v.ownBlock → wpList P ops Q rest (a.put o.dst v') w1) : wpList P ops Q (o :: rest) a wr := by
  subst hn
  obtain ⟨i0, hi, hz0, hz1, hz2⟩ := info_parts E.info
  have hb : (cs.length + ns.length) * bytes ≤ 1000000 * 1000 := Nat.mul_le_mul hlen hby
  refine wpList_want hgd fun K hK => ?_
  cases A with
  | none =>
    have hn : ns = [] := by
      rcases hns with h | ⟨_, _, h, _⟩
      · exact h
      · cases h
    subst hn
    obtain rfl : c = 0 := hc rfl
    have hrun := run_append_owned_none (P := P) (w := wr) B S o.type e i0 7 E.under hi v cs.length _ hown.own
    unfold Oper.wp
    simp [execOp, ho, resolve, invoke, builtin, hs, hy, hrun, Result.andThen]
    exact hK _ _ (h v wr (by simpa using hown) ⟨rfl, rfl, rfl, Nat.le_refl _, fun _ _ _ => rfl⟩)
  | some ad =>
    refine wp_append_own _ s y S ho B e i0 _ 7 bytes E.under hi hz0 hz1 hz2 rfl (by decide) v cs.length _ hs hown.own ad ns.length c (flatC k ns) hy (flatC_len k ns) ?_ (flatC_one k ns)
      (by unfold maxLen; omega) (by omega) hown.le ?_
    · intro j u hu
      rcases hns with rfl | ⟨b, off, e1, hcell⟩
      · simp [flatC] at hu
      · cases e1
        rw [show (⟨b, off, none⟩ : Addr).add j = ⟨b, off + j, none⟩ by unfold Addr.add; split <;> simp_all]
        exact hcell j u hu
    · intro v' w1 h1 hg _
      exact hK _ _ (h v' w1 (hown.grown h1 hg) hg)

theorem rowC_same {k : IntKind} {B : Nat} {w wr w1 : World} {v : Value} {cs : List Cel} (h : OwnC 127 k B w wr v cs) (hg : wr.grownBy w1 v.ownBlock) : ∀ (b : Nat) (cur : Array Value) (t : TypeId), t ≠ 127 → wr.heap[b]? = some (Obj.cells cur t (0, 0)) → w1.heap[b]? = wr.heap[b]? := by
  intro b cur t ht hb
  refine World.grownBy.block hg b (Array.getElem?_eq_some_iff.1 hb).1 ?_
  intro e
  rcases h.own.2 with ⟨rfl, _⟩ | ⟨g, cap, cur', rfl, _, hh, _⟩
  · simp [Value.ownBlock] at e
  · obtain rfl : b = g := by simpa [Value.ownBlock] using e
    rw [hh] at hb
    simp only [Option.some.injEq, Obj.cells.injEq] at hb
    exact ht hb.2.1.symm
theorem RdS.keepT {w w1 : World} {g : Nat} {xs : List Int} {s : Nat × Int} (h : RdS w g xs s) (hk : ∀ (b : Nat) (cur : Array Value) (t : TypeId), t ≠ 127 → w.heap[b]? = some (Obj.cells cur t (0, 0)) → w1.heap[b]? = w.heap[b]?) : RdS w1 g xs s := by
  obtain ⟨t, h1, h2, h3⟩ := h
  obtain ⟨A, c, hw, hi, hc, hA⟩ := h2.ex
  exact ⟨t, h1, ⟨A, c, (hk g _ _ (by decide) hw).trans hw, hi.keep fun b cur hh => hk b cur 5 (by decide) hh, hc, hA⟩, h3⟩
theorem OwnC.now {e : TypeId} {k : IntKind} {B : Nat} {w wr : World} {v : Value} {cs : List Cel} (h : OwnC e k B w wr v cs) : OwnC e k B wr wr v cs := ⟨h.own, Below.refl _ _, h.le⟩
theorem OwnC.keepO {e : TypeId} {k : IntKind} {B g : Nat} {w wr w1 : World} {v : Value} {cs : List Cel} (h : OwnC e k B w wr v cs) (ho : Only g wr w1) (hg : g < B) : OwnC e k B w1 w1 v cs := by
  refine ⟨⟨h.own.1, ?_⟩, Below.refl _ _, Nat.le_trans h.le ho.size⟩
  rcases h.own.2 with h0 | ⟨g', cap, cur, hv, hB, hh, h1⟩
  · exact .inl h0
  · exact .inr ⟨g', cap, cur, hv, hB, (World.grownBy.block ho g' (Array.getElem?_eq_some_iff.1 hh).1 (fun e => by cases e; omega)).trans hh, h1⟩
theorem only_belowB {g B : Nat} {w wr w1 : World} (h : Only g w wr) (hb : Below B wr w1) (hB : w.heap.size ≤ B) : Only g w w1 :=
  ⟨hb.os.trans h.os, hb.tape.trans h.tape, hb.output.trans h.output, Nat.le_trans h.size hb.size, fun i hi hne => (hb.block i (by omega)).trans (h.block i hi hne)⟩
theorem Spans.low {B : Nat} {w w' : World} (h : Spans w) (hb : Below B w w') (hB : 0 < B) : Spans w' := fun j v hv => by
  rw [← h j v hv]
  exact hb.cell (p := ⟨0, _, none⟩) hB

theorem stepP {xs : List Int} {i : Nat} {s a1 st1 : Nat × Int} {V E : Int} {T : Nat} {out : List Cel} {c : Cel} {ok : Bool} (ha : upD xs s (512 - (out.length : Int)) 6 = (a1, V)) (hs1 : (if a1.2 = 0 ∧ V = 0 then (a1.1, (3 : Int)) else a1) = st1) (hc : oneD xs st1 = ((T, E), c, ok)) :
    stepD xs i (s, out) = ((T, if E = 0 ∧ (ok = false ∨ rightC c = false ∨ 0 < i ∧ cAt out (out.length - 1) = c) then 3 else E), if (if E = 0 ∧ (ok = false ∨ rightC c = false ∨ 0 < i ∧ cAt out (out.length - 1) = c) then (3 : Int) else E) = 0 then out ++ List.replicate V.toNat c else out) := by
  unfold stepD
  simp only [ha, hs1, hc]
  by_cases q : E = 0 ∧ (ok = false ∨ rightC c = false ∨ 0 < i ∧ cAt out (out.length - 1) = c)
  · simp only [if_pos q]
  · simp only [if_neg q]
theorem dup_yes {T : Nat} {E : Int} {c : Cel} {ok : Bool} {i : Nat} {out : List Cel} (h : 0 < i ∧ cAt out (out.length - 1) = c) : fEr (oneS ((T, E), c, ok)).2 3 = (if E = 0 ∧ (ok = false ∨ rightC c = false ∨ 0 < i ∧ cAt out (out.length - 1) = c) then 3 else E) := by
  unfold oneS fEr
  simp only [h, and_self, or_true, and_true]
  by_cases q : E = 0
  · by_cases p : ok = false ∨ rightC c = false
    · simp [q, p]
    · simp [q, p]
  · simp [q]
theorem dup_no {T : Nat} {E : Int} {c : Cel} {ok : Bool} {i : Nat} {out : List Cel} (h : ¬ (0 < i ∧ cAt out (out.length - 1) = c)) : (oneS ((T, E), c, ok)).2 = (if E = 0 ∧ (ok = false ∨ rightC c = false ∨ 0 < i ∧ cAt out (out.length - 1) = c) then 3 else E) := by
  unfold oneS
  simp only [h, or_false]
theorem loop_stays {xs : List Int} {s : Nat × Int} {j : Nat} (h : (loopD xs s j).1.2 ≠ 0) : ∀ m, loopD xs s (j + m) = loopD xs s j := by
  intro m
  induction m with
  | zero => rfl
  | succ m ih =>
    have u : loopD xs s (j + m + 1) = if (loopD xs s (j + m)).1.2 = 0 then stepD xs (j + m) (loopD xs s (j + m)) else loopD xs s (j + m) := rfl
    rw [← Nat.add_assoc, u, ih, if_neg h]
theorem loop_succ {xs : List Int} {s : Nat × Int} {j : Nat} (h : (loopD xs s j).1.2 = 0) : loopD xs s (j + 1) = stepD xs j (loopD xs s j) := by
  show (if (loopD xs s j).1.2 = 0 then stepD xs j (loopD xs s j) else loopD xs s j) = _
  rw [if_pos h]
/-- What Take leaves. -/
def TakeS (g : Nat) (w : World) (xs : List Int) (x : (Nat × Int) × List Cel) (e : Ending) (w' : World) : Prop := ∃ A c, e = .returned (.slice A x.2.length c) ∧ CelsT 0 127 .i32 w' A x.2 ∧ (x.2.length ≤ c ∧ (A = none → c = 0)) ∧ Only g w w' ∧ RdS w' g xs x.1
theorem take_err {xs : List Int} {s s0 : Nat × Int} {V : Int} {j : Nat} (h0 : upD xs s 512 6 = (s0, V)) (hj : j ≤ V.toNat) (he : (loopD xs s0 j).1.2 ≠ 0) : takeD xs s = ((loopD xs s0 j).1, []) := by
  unfold takeD
  simp only [h0]
  obtain ⟨m, hm⟩ : ∃ m, V.toNat = j + m := ⟨V.toNat - j, by omega⟩
  rw [hm, loop_stays he m, if_neg he]
theorem take_fin {xs : List Int} {s s0 : Nat × Int} {V : Int} (h0 : upD xs s 512 6 = (s0, V)) (he : (loopD xs s0 V.toNat).1.2 = 0) : takeD xs s = loopD xs s0 V.toNat := by
  unfold takeD
  simp only [h0]
  rw [if_pos he]
theorem one_err {xs : List Int} {s : Nat × Int} {T : Nat} {E : Int} {c : Cel} {ok : Bool} (hb : Byte xs) (h : oneD xs s = ((T, E), c, ok)) (hE : E = 0) (hok : ok = true) : s.2 = 0 := by
  have := (one_back (xs := xs) (s := s) hb (by rw [h]; exact hE) (by rw [h]; exact hok)).1
  exact this
theorem loop_len {xs : List Int} {s : Nat × Int} (hb : Byte xs) (j : Nat) (h : (loopD xs s j).1.2 = 0) : (loopD xs s j).2.length ≤ 512 ∧ (0 < j → 0 < (loopD xs s j).2.length) := by
  obtain ⟨-, rs, h1, h2, -, h4, h5, -⟩ := loop_back hb j h
  rw [h4]
  refine ⟨h5, fun hj => ?_⟩
  cases rs with
  | nil => simp at h1; omega
  | cons x rs =>
    have := fine_one h2
    rw [expand_cons]
    simp
    omega

theorem take_s (g : Nat) (xs : List Int) (s : Nat × Int) (w : World) (h : RdS w g xs s) (hb : Byte xs) (hl : xs.length ≤ 1000000) (hS : Spans w) :
    Calls Tryd.prog 76 #[.pointer (some ⟨g, 0, none⟩)] w (TakeS g w xs (takeD xs s)) := by
  have KEY := hide (some_s g xs s 512 w h hb hl (by omega))
  have HG := hide h.lt
  have HGZ := hide (spans_rd hS h)
  have HS0 := hide hS
  obtain ⟨v0, v1⟩ := upD_bd (xs := xs) (s := s) (most := 512) (er := 6) hb (by omega)
  have hz := upD_zero (xs := xs) (s := s) (most := 512) (er := 6) hb
  obtain ⟨⟨s0, V⟩, hU⟩ : ∃ U, upD xs s 512 6 = U := ⟨_, rfl⟩
  rw [hU] at KEY v0 v1 hz
  simp only at KEY v0 v1 hz
  obtain ⟨N, rfl⟩ : ∃ N : Nat, V = (N : Int) := ⟨V.toNat, by omega⟩
  have HU := hide hU
  have HZ : Hid (0 < N → s0.2 = 0) := fun hp => by
    by_cases q : s0.2 = 0
    · exact q
    · have := hz q; omega
  obtain ⟨B, hB⟩ : ∃ B, w.heap.size = B := ⟨_, rfl⟩
  have HGB : Hid (g < B) := by unfold Hid; rw [← hB]; exact HG.out
  have HB := hide hB
  have H0B : Hid (0 < B) := by unfold Hid; rw [← hB]; exact hS.size
  clear h hS hU hz hB
  go_enter Tryd.func76, Tryd.ntmps76
  go_wp2_with fail
  refine KEY.out.mono ?_
  rintro e w1 ⟨rfl, ho1, hr1⟩
  have HO1 := hide ho1
  have HR1 := hide hr1
  have HS1 := hide (ho1.spans HS0.out HGZ.out)
  have HL1 : Hid (B ≤ w1.heap.size) := by unfold Hid; rw [← HB.out]; exact ho1.size
  clear ho1 hr1
  go_wp2
  go_loopw [3, 8] (fun v i wr => ∃ k : Nat, k ≤ N ∧ i = .int .i64 k ∧ Hid (k = 0 ∨ (loopD xs s0 k).1.2 = 0) ∧ Hid (RdS wr g xs (loopD xs s0 k).1) ∧ Hid (OwnC 127 .i32 B wr wr v (loopD xs s0 k).2) ∧ Hid (Only g w wr) ∧ Hid (Spans wr)) (fun _ i _ => N - (intOf i).toNat)
  case atStart => exact ⟨0, Nat.zero_le _, rfl, .inl rfl, HR1, OwnC.start HL1.out, HO1, HS1⟩
  case round =>
    obtain ⟨k, hk, rfl, HE, HR, HV, HO, HS⟩ := hrel
    by_cases hlt : k < N
    · have he : (loopD xs s0 k).1.2 = 0 := by
        rcases HE.out with rfl | z
        · exact HZ.out (by omega)
        · exact z
      obtain ⟨hlen, hpos⟩ := loop_len hb k he
      have HSU := hide (loop_succ he)
      obtain ⟨⟨s2, out⟩, hX⟩ : ∃ X, loopD xs s0 k = X := ⟨_, rfl⟩
      have HX := hide hX
      rw [hX] at HR HV HSU hlen hpos
      simp only at HR HV HSU hlen hpos
      obtain ⟨ln, hln⟩ : ∃ ln, out.length = ln := ⟨_, rfl⟩
      have HLN := hide hln
      obtain ⟨A0, cp, rfl, -, -, -, hcm⟩ : ∃ A0 cp, u3 = .slice A0 ln cp ∧ True ∧ True ∧ True ∧ cp ≤ maxLen := by
        obtain ⟨A0, cp, e, _, _, _, hm⟩ := HV.out.form
        exact ⟨A0, cp, by rw [e, hln], trivial, trivial, trivial, hm⟩
      obtain ⟨⟨a1, VV⟩, hA⟩ : ∃ U, upD xs s2 (512 - (out.length : Int)) 6 = U := ⟨_, rfl⟩
      obtain ⟨w0', w1'⟩ := upD_bd (xs := xs) (s := s2) (most := 512 - (out.length : Int)) (er := 6) hb (by omega)
      rw [hA] at w0' w1'
      simp only at w0' w1'
      obtain ⟨KK, rfl⟩ : ∃ KK : Nat, VV = (KK : Int) := ⟨VV.toNat, by omega⟩
      obtain ⟨st1, hST⟩ : ∃ st1, (if a1.2 = 0 ∧ (KK : Int) = 0 then (a1.1, (3 : Int)) else a1) = st1 := ⟨_, rfl⟩
      obtain ⟨⟨⟨T, E⟩, ⟨r, m, y, d, ⟨f, gg, b⟩⟩, ok⟩, hCC⟩ : ∃ U, oneD xs st1 = U := ⟨_, rfl⟩
      have hstep := stepP (i := k) hA hST hCC
      rw [hln] at hA hlen hpos w1'
      have hk0 : k = 0 → ln = 0 := by
        rintro rfl
        have : (loopD xs s0 0).2 = [] := rfl
        rw [HX.out] at this
        rw [← HLN.out, show out = [] from this]
        rfl
      rcases Nat.eq_zero_or_pos ln with hl0 | hl0
      · subst hl0
        have hkz : k = 0 := by
          rcases Nat.eq_zero_or_pos k with z | z
          · exact z
          · have := hpos z; omega
        have hnd : ¬ (0 < k ∧ cAt out (out.length - 1) = ⟨r, m, y, d, ⟨f, gg, b⟩⟩) := fun z => by omega
        have hst := dup_no (T := T) (E := E) (ok := ok) hnd
        obtain ⟨e2, he2⟩ : ∃ e2, (if E = 0 ∧ (ok = false ∨ rightC ⟨r, m, y, d, ⟨f, gg, b⟩⟩ = false ∨ 0 < k ∧ cAt out (out.length - 1) = ⟨r, m, y, d, ⟨f, gg, b⟩⟩) then (3 : Int) else E) = e2 := ⟨_, rfl⟩
        rw [he2] at hst hstep
        by_cases hz2 : e2 = 0
        · have hgood : E = 0 ∧ ok = true := by
            by_cases q : E = 0
            · refine ⟨q, ?_⟩
              cases ok
              · rw [if_pos ⟨q, .inl rfl⟩] at he2; omega
              · rfl
            · rw [if_neg (fun z => q z.1)] at he2; omega
          have hs20 := one_err hb hCC hgood.1 hgood.2
          have hKK : 1 ≤ KK := by
            rcases Nat.eq_zero_or_pos KK with z | z
            · subst z
              by_cases q : a1.2 = 0
              · rw [if_pos ⟨q, rfl⟩] at hST
                rw [← hST] at hs20
                simp at hs20
              · rw [if_neg (fun z => q z.1)] at hST
                rw [← hST] at hs20
                exact absurd hs20 q
            · exact z
          rw [if_pos hz2, hz2, Int.toNat_natCast] at hstep
          have HNX : Hid (loopD xs s0 (k + 1) = ((T, 0), out ++ List.replicate KK ⟨r, m, y, d, ⟨f, gg, b⟩⟩)) := by unfold Hid; rw [HSU.out]; exact hstep
          have hoS : (oneS ((T, E), (⟨r, m, y, d, ⟨f, gg, b⟩⟩ : Cel), ok)) = (T, 0) := Prod.ext rfl (hst.trans hz2)
          have HOS := hide hoS
          clear hstep hst he2 hz2 hgood hs20 hoS hnd
          rw [show (512 : Int) - ((0 : Nat) : Int) = 512 from rfl] at hA
          have HA := hide hA
          have HST := hide hST
          have HCC := hide hCC
          clear hA hST hCC
          go_wp2_with fail
          refine (takeoften_s g xs s2 512 wr HR.out hb hl (by omega)).mono ?_
          rw [HA.out]
          simp only
          rw [HST.out]
          rintro e w1 ⟨rfl, ho1, hr1⟩
          have HR1 := hide hr1
          have HO1 := hide (HO.out.trans ho1)
          have HV1 := hide (HV.out.keepO ho1 HGB.out)
          have HS1 := hide (ho1.spans HS.out HGZ.out)
          clear ho1 hr1
          go_wp2_with fail
          refine (takecell_s g xs st1 w1 HR1.out hb hl HS1.out).mono ?_
          rw [HCC.out]
          rintro e w2 ⟨rfl, ho2, hr2⟩
          obtain ⟨w3, hw3⟩ : ∃ w3, w2.alloc (.cells #[.int .i32 r, .int .i32 m, .int .i32 y, .int .u8 (d : Int), .int .u8 (f : Int), .int .u8 (gg : Int), .int .u8 (b : Int)] 127) = w3 := ⟨_, rfl⟩
          have hb3 : Below w2.heap.size w2 w3 := by rw [← hw3]; exact (Below.refl _ _).alloc (Nat.le_refl _) _
          have HD3 : Hid (Whole w3 w2.heap.size 127 [.int .i32 r, .int .i32 m, .int .i32 y, .int .u8 (d : Int), .int .u8 (f : Int), .int .u8 (gg : Int), .int .u8 (b : Int)]) := by unfold Hid; rw [← hw3]; exact Whole.new w2 127 _
          have HR3 := hide (hr2.later hb3)
          have HO3 := hide (only_below (HO1.out.trans ho2) hb3)
          have HV3 := hide ((HV1.out.keepO ho2 HGB.out).later hb3).now
          have HS3 := hide ((ho2.spans HS1.out HGZ.out).below hb3)
          have HW3 := hide hw3
          have eC := @eqlCell
          clear hb3 hw3 ho2 hr2
          obtain ⟨c0, c1, c2, c3, c4, c5, c6, -⟩ := cells7 HD3.out
          have l3 := HD3.out.lt
          go_wp2
          rw [HW3.out]
          go_quiet (fail)
          obtain ⟨w4, hw4⟩ : ∃ w4, w3.drewN nq = w4 := ⟨_, rfl⟩
          rw [hw4]
          have hb4 : Below w3.heap.size w3 w4 := by rw [← hw4]; exact (Below.refl _ _).drewN _
          have HR4 := hide (HR3.out.later hb4)
          have HO4 := hide (only_below HO3.out hb4)
          have HV4 := hide (HV3.out.later hb4).now
          have HS4 := hide (HS3.out.below hb4)
          have HD4 := hide (HD3.out.later hb4)
          clear hb4 hw4 c0 c1 c2 c3 c4 c5 c6 l3
          rw [HOS.out] at HR4
          go_wp2_with fail
          refine (err_s g xs (T, 0) w4 HR4.out).mono ?_
          rintro e w9 ⟨rfl, rfl⟩
          obtain ⟨c0, c1, c2, c3, c4, c5, c6, -⟩ := cells7 HD4.out
          have l4 := HD4.out.lt
          obtain ⟨w5, hw5⟩ : ∃ w5, w4.alloc (.cells #[.int .i32 r, .int .i32 m, .int .i32 y, .int .u8 (d : Int), .int .u8 (f : Int), .int .u8 (gg : Int), .int .u8 (b : Int)] 127) = w5 := ⟨_, rfl⟩
          have hb5 : Below w4.heap.size w4 w5 := by rw [← hw5]; exact (Below.refl _ _).alloc (Nat.le_refl _) _
          have hc5 : Cels .i32 w5 (some ⟨w4.heap.size, 0, none⟩) [⟨r, m, y, d, ⟨f, gg, b⟩⟩] := by rw [← hw5]; exact (Whole.new w4 127 (flatC .i32 [⟨r, m, y, d, ⟨f, gg, b⟩⟩])).cels
          have HC5 := hide hc5
          have HB5 := hide hb5
          have HW5 := hide hw5
          clear hc5 hb5 hw5
          go_wp2_with fail
          rw [HW5.out]
          refine (repeat_any _ 1 ⟨r, m, y, d, ⟨f, gg, b⟩⟩ KK w5 HC5.out hKK (by omega)).mono ?_
          rintro e w6 ⟨g6, rfl, -, hw6, hb6⟩
          rw [List.length_replicate]
          have hb46 := HB5.out.trans (hb6.mono HB5.out.size)
          have HR6 := hide (HR4.out.later hb46)
          have HO6 := hide (only_below HO4.out hb46)
          have HV6 := hide (HV4.out.later hb46).now
          have HS6 := hide (HS4.out.below hb46)
          have HC6 := hide hw6.cels
          clear hw6 hb6 hb46 c0 c1 c2 c3 c4 c5 c6 l4
          go_wp2_with (at_builtin; refine stopw ?_)
          unfold Hid
          refine wpList_catCG elemL rfl _ _ rfl rfl rfl HV6.out HC6.out (by rw [List.length_replicate]) (by intro q; cases q) (by rw [HLN.out]; omega) (by omega) ?_
          intro v' w7 hown hgr
          have HR7 := hide (HR6.out.keepT (rowC_same HV6.out hgr))
          have HO7 := hide (only_belowB HO6.out hown.bel (Nat.le_of_eq HB.out))
          have HS7 := hide (HS6.out.low hown.bel H0B.out)
          have HV7 := hide hown.now
          clear hown hgr
          go_wp2
          go_roundw
          case rel => exact ⟨k + 1, by omega, by go_num, .inr (by rw [HNX.out]), by rw [HNX.out]; exact HR7, by rw [HNX.out]; exact HV7, HO7, HS7⟩
          case measure => simp [intOf]; omega
        · have hne2 : (e2 != 0) = true := by simpa using hz2
          have HNE := hide hne2
          rw [if_neg hz2] at hstep
          have HNIL : Hid (takeD xs s = ((T, e2), [])) := by
            unfold Hid
            have q : loopD xs s0 (k + 1) = ((T, e2), out) := by rw [HSU.out]; exact hstep
            have := take_err (j := k + 1) HU.out (by rw [Int.toNat_natCast]; omega) (by rw [q]; exact hz2)
            rw [q] at this
            exact this
          have hoS : (oneS ((T, E), (⟨r, m, y, d, ⟨f, gg, b⟩⟩ : Cel), ok)) = (T, e2) := Prod.ext rfl hst
          have HOS := hide hoS
          clear hstep hst he2 hz2 hoS hnd hne2
          rw [show (512 : Int) - ((0 : Nat) : Int) = 512 from rfl] at hA
          have HA := hide hA
          have HST := hide hST
          have HCC := hide hCC
          clear hA hST hCC
          go_wp2_with fail
          refine (takeoften_s g xs s2 512 wr HR.out hb hl (by omega)).mono ?_
          rw [HA.out]
          simp only
          rw [HST.out]
          rintro e w1 ⟨rfl, ho1, hr1⟩
          have HR1 := hide hr1
          have HO1 := hide (HO.out.trans ho1)
          have HV1 := hide (HV.out.keepO ho1 HGB.out)
          have HS1 := hide (ho1.spans HS.out HGZ.out)
          clear ho1 hr1
          go_wp2_with fail
          refine (takecell_s g xs st1 w1 HR1.out hb hl HS1.out).mono ?_
          rw [HCC.out]
          rintro e w2 ⟨rfl, ho2, hr2⟩
          obtain ⟨w3, hw3⟩ : ∃ w3, w2.alloc (.cells #[.int .i32 r, .int .i32 m, .int .i32 y, .int .u8 (d : Int), .int .u8 (f : Int), .int .u8 (gg : Int), .int .u8 (b : Int)] 127) = w3 := ⟨_, rfl⟩
          have hb3 : Below w2.heap.size w2 w3 := by rw [← hw3]; exact (Below.refl _ _).alloc (Nat.le_refl _) _
          have HD3 : Hid (Whole w3 w2.heap.size 127 [.int .i32 r, .int .i32 m, .int .i32 y, .int .u8 (d : Int), .int .u8 (f : Int), .int .u8 (gg : Int), .int .u8 (b : Int)]) := by unfold Hid; rw [← hw3]; exact Whole.new w2 127 _
          have HR3 := hide (hr2.later hb3)
          have HO3 := hide (only_below (HO1.out.trans ho2) hb3)
          have HV3 := hide ((HV1.out.keepO ho2 HGB.out).later hb3).now
          have HS3 := hide ((ho2.spans HS1.out HGZ.out).below hb3)
          have HW3 := hide hw3
          have eC := @eqlCell
          clear hb3 hw3 ho2 hr2
          obtain ⟨c0, c1, c2, c3, c4, c5, c6, -⟩ := cells7 HD3.out
          have l3 := HD3.out.lt
          go_wp2
          rw [HW3.out]
          go_quiet (fail)
          obtain ⟨w4, hw4⟩ : ∃ w4, w3.drewN nq = w4 := ⟨_, rfl⟩
          rw [hw4]
          have hb4 : Below w3.heap.size w3 w4 := by rw [← hw4]; exact (Below.refl _ _).drewN _
          have HR4 := hide (HR3.out.later hb4)
          have HO4 := hide (only_below HO3.out hb4)
          have HV4 := hide (HV3.out.later hb4).now
          have HS4 := hide (HS3.out.below hb4)
          have HD4 := hide (HD3.out.later hb4)
          clear hb4 hw4 c0 c1 c2 c3 c4 c5 c6 l3
          rw [HOS.out] at HR4
          go_wp2_with fail
          refine (err_s g xs (T, e2) w4 HR4.out).mono ?_
          rintro e w9 ⟨rfl, rfl⟩
          have hne2 := HNE.out
          go_wp2
          go_ret
          refine ⟨none, 0, by rw [HNIL.out]; rfl, by rw [HNIL.out]; exact .nil, by rw [HNIL.out]; exact ⟨Nat.le_refl _, fun _ => rfl⟩, HO4.out, ?_⟩
          rw [HNIL.out]
          exact HR4.out
      · have hkp : 0 < k := by
          rcases Nat.eq_zero_or_pos k with z | z
          · have := hk0 z; omega
          · exact z
        have hdec : decide ((0 : Int) < (ln : Int)) = true := by simp; omega
        by_cases hlc : cAt out (ln - 1) = ⟨r, m, y, d, ⟨f, gg, b⟩⟩
        · have hdu : 0 < k ∧ cAt out (out.length - 1) = ⟨r, m, y, d, ⟨f, gg, b⟩⟩ := ⟨hkp, by rw [HLN.out]; exact hlc⟩
          have HDU := hide hlc
          clear hlc
          have hst := dup_yes (T := T) (E := E) (ok := ok) hdu
          obtain ⟨e2, he2⟩ : ∃ e2, (if E = 0 ∧ (ok = false ∨ rightC ⟨r, m, y, d, ⟨f, gg, b⟩⟩ = false ∨ 0 < k ∧ cAt out (out.length - 1) = ⟨r, m, y, d, ⟨f, gg, b⟩⟩) then (3 : Int) else E) = e2 := ⟨_, rfl⟩
          rw [he2] at hst hstep
          have hz2 : e2 ≠ 0 := by
            intro q
            by_cases z : E = 0
            · rw [if_pos ⟨z, .inr (.inr hdu)⟩] at he2; omega
            · rw [if_neg (fun y => z y.1)] at he2; omega
          have hne2 : (e2 != 0) = true := by simpa using hz2
          have HNE := hide hne2
          rw [if_neg hz2] at hstep
          have HNIL : Hid (takeD xs s = ((T, e2), [])) := by
            unfold Hid
            have q : loopD xs s0 (k + 1) = ((T, e2), out) := by rw [HSU.out]; exact hstep
            have := take_err (j := k + 1) HU.out (by rw [Int.toNat_natCast]; omega) (by rw [q]; exact hz2)
            rw [q] at this
            exact this
          have hoS : ((oneS ((T, E), (⟨r, m, y, d, ⟨f, gg, b⟩⟩ : Cel), ok)).1, fEr (oneS ((T, E), (⟨r, m, y, d, ⟨f, gg, b⟩⟩ : Cel), ok)).2 3) = (T, e2) := by rw [hst]; rfl
          have HOS := hide hoS
          clear hstep hst he2 hz2 hoS hdu hne2
          have HA := hide hA
          have HST := hide hST
          have HCC := hide hCC
          clear hA hST hCC
          go_wp2_with fail
          refine (takeoften_s g xs s2 (512 - (ln : Int)) wr HR.out hb hl (by omega)).mono ?_
          rw [HA.out]
          simp only
          rw [HST.out]
          rintro e w1 ⟨rfl, ho1, hr1⟩
          have HR1 := hide hr1
          have HO1 := hide (HO.out.trans ho1)
          have HV1 := hide (HV.out.keepO ho1 HGB.out)
          have HS1 := hide (ho1.spans HS.out HGZ.out)
          clear ho1 hr1
          go_wp2_with fail
          refine (takecell_s g xs st1 w1 HR1.out hb hl HS1.out).mono ?_
          rw [HCC.out]
          rintro e w2 ⟨rfl, ho2, hr2⟩
          obtain ⟨w3, hw3⟩ : ∃ w3, w2.alloc (.cells #[.int .i32 r, .int .i32 m, .int .i32 y, .int .u8 (d : Int), .int .u8 (f : Int), .int .u8 (gg : Int), .int .u8 (b : Int)] 127) = w3 := ⟨_, rfl⟩
          have hb3 : Below w2.heap.size w2 w3 := by rw [← hw3]; exact (Below.refl _ _).alloc (Nat.le_refl _) _
          have HD3 : Hid (Whole w3 w2.heap.size 127 [.int .i32 r, .int .i32 m, .int .i32 y, .int .u8 (d : Int), .int .u8 (f : Int), .int .u8 (gg : Int), .int .u8 (b : Int)]) := by unfold Hid; rw [← hw3]; exact Whole.new w2 127 _
          have HR3 := hide (hr2.later hb3)
          have HO3 := hide (only_below (HO1.out.trans ho2) hb3)
          have HV3 := hide ((HV1.out.keepO ho2 HGB.out).later hb3).now
          have HS3 := hide ((ho2.spans HS1.out HGZ.out).below hb3)
          have HW3 := hide hw3
          have eC := @eqlCell
          clear hb3 hw3 ho2 hr2
          obtain ⟨A3, c3', hv3, hcl3, -, -, -⟩ := HV3.out.form
          rw [HLN.out] at hv3
          cases hv3
          obtain ⟨⟨r', m', y', d', ⟨f', g', b'⟩⟩, hla⟩ : ∃ q, cAt out (ln - 1) = q := ⟨_, rfl⟩
          obtain ⟨bq, oq, rfl, lq, -⟩ := hcl3.at (i := ln - 1) (by rw [HLN.out]; omega)
          obtain ⟨u0, u1, u2, u3, u4, u5, u6, -⟩ := hcl3.sevenC (ln - 1) (by rw [HLN.out]; omega) hla
          clear hcl3
          obtain ⟨l1, rfl⟩ : ∃ l1, ln = l1 + 1 := ⟨ln - 1, by omega⟩
          rw [Nat.add_sub_cancel] at u0 u1 u2 u3 u4 u5 u6 hla
          have hqq : eqC r m y (d : Int) (f : Int) (gg : Int) (b : Int) r' m' y' (d' : Int) (f' : Int) (g' : Int) (b' : Int) = true := by rw [eqC_cel]; exact decide_eq_true (by have z1 := HDU.out; rw [Nat.add_sub_cancel, hla] at z1; exact z1.symm)
          clear hla
          obtain ⟨c0, c1, c2, c3, c4, c5, c6, -⟩ := cells7 HD3.out
          have l3 := HD3.out.lt
          go_wp2
          rw [HW3.out]
          go_quiet (fail)
          obtain ⟨w4, hw4⟩ : ∃ w4, w3.drewN nq = w4 := ⟨_, rfl⟩
          rw [hw4]
          have hb4 : Below w3.heap.size w3 w4 := by rw [← hw4]; exact (Below.refl _ _).drewN _
          have HR4 := hide (HR3.out.later hb4)
          have HO4 := hide (only_below HO3.out hb4)
          have HV4 := hide (HV3.out.later hb4).now
          have HS4 := hide (HS3.out.below hb4)
          have HD4 := hide (HD3.out.later hb4)
          clear hb4 hw4 c0 c1 c2 c3 c4 c5 c6 l3
          go_wp2_with fail
          refine (fail_s g xs _ 3 (by decide) w4 HR4.out).mono ?_
          rw [HOS.out]
          rintro e w10 ⟨rfl, ho10, hr10⟩
          have HR10 := hide hr10
          have HO10 := hide (HO4.out.trans ho10)
          clear ho10 hr10
          go_wp2_with fail
          refine (err_s g xs (T, e2) w10 HR10.out).mono ?_
          rintro e w9 ⟨rfl, rfl⟩
          have hne2 := HNE.out
          go_wp2
          go_ret
          refine ⟨none, 0, by rw [HNIL.out]; rfl, by rw [HNIL.out]; exact .nil, by rw [HNIL.out]; exact ⟨Nat.le_refl _, fun _ => rfl⟩, HO10.out, ?_⟩
          rw [HNIL.out]
          exact HR10.out
        · have hnd : ¬ (0 < k ∧ cAt out (out.length - 1) = ⟨r, m, y, d, ⟨f, gg, b⟩⟩) := fun z => hlc (by rw [← HLN.out]; exact z.2)
          have HND := hide hlc
          clear hlc
          have hst := dup_no (T := T) (E := E) (ok := ok) hnd
          obtain ⟨e2, he2⟩ : ∃ e2, (if E = 0 ∧ (ok = false ∨ rightC ⟨r, m, y, d, ⟨f, gg, b⟩⟩ = false ∨ 0 < k ∧ cAt out (out.length - 1) = ⟨r, m, y, d, ⟨f, gg, b⟩⟩) then (3 : Int) else E) = e2 := ⟨_, rfl⟩
          rw [he2] at hst hstep
          by_cases hz2 : e2 = 0
          · have hgood : E = 0 ∧ ok = true := by
              by_cases q : E = 0
              · refine ⟨q, ?_⟩
                cases ok
                · rw [if_pos ⟨q, .inl rfl⟩] at he2; omega
                · rfl
              · rw [if_neg (fun z => q z.1)] at he2; omega
            have hs20 := one_err hb hCC hgood.1 hgood.2
            have hKK : 1 ≤ KK := by
              rcases Nat.eq_zero_or_pos KK with z | z
              · subst z
                by_cases q : a1.2 = 0
                · rw [if_pos ⟨q, rfl⟩] at hST
                  rw [← hST] at hs20
                  simp at hs20
                · rw [if_neg (fun z => q z.1)] at hST
                  rw [← hST] at hs20
                  exact absurd hs20 q
              · exact z
            rw [if_pos hz2, hz2, Int.toNat_natCast] at hstep
            have HNX : Hid (loopD xs s0 (k + 1) = ((T, 0), out ++ List.replicate KK ⟨r, m, y, d, ⟨f, gg, b⟩⟩)) := by unfold Hid; rw [HSU.out]; exact hstep
            have hoS : (oneS ((T, E), (⟨r, m, y, d, ⟨f, gg, b⟩⟩ : Cel), ok)) = (T, 0) := Prod.ext rfl (hst.trans hz2)
            have HOS := hide hoS
            clear hstep hst he2 hz2 hgood hs20 hoS hnd
            have HA := hide hA
            have HST := hide hST
            have HCC := hide hCC
            clear hA hST hCC
            go_wp2_with fail
            refine (takeoften_s g xs s2 (512 - (ln : Int)) wr HR.out hb hl (by omega)).mono ?_
            rw [HA.out]
            simp only
            rw [HST.out]
            rintro e w1 ⟨rfl, ho1, hr1⟩
            have HR1 := hide hr1
            have HO1 := hide (HO.out.trans ho1)
            have HV1 := hide (HV.out.keepO ho1 HGB.out)
            have HS1 := hide (ho1.spans HS.out HGZ.out)
            clear ho1 hr1
            go_wp2_with fail
            refine (takecell_s g xs st1 w1 HR1.out hb hl HS1.out).mono ?_
            rw [HCC.out]
            rintro e w2 ⟨rfl, ho2, hr2⟩
            obtain ⟨w3, hw3⟩ : ∃ w3, w2.alloc (.cells #[.int .i32 r, .int .i32 m, .int .i32 y, .int .u8 (d : Int), .int .u8 (f : Int), .int .u8 (gg : Int), .int .u8 (b : Int)] 127) = w3 := ⟨_, rfl⟩
            have hb3 : Below w2.heap.size w2 w3 := by rw [← hw3]; exact (Below.refl _ _).alloc (Nat.le_refl _) _
            have HD3 : Hid (Whole w3 w2.heap.size 127 [.int .i32 r, .int .i32 m, .int .i32 y, .int .u8 (d : Int), .int .u8 (f : Int), .int .u8 (gg : Int), .int .u8 (b : Int)]) := by unfold Hid; rw [← hw3]; exact Whole.new w2 127 _
            have HR3 := hide (hr2.later hb3)
            have HO3 := hide (only_below (HO1.out.trans ho2) hb3)
            have HV3 := hide ((HV1.out.keepO ho2 HGB.out).later hb3).now
            have HS3 := hide ((ho2.spans HS1.out HGZ.out).below hb3)
            have HW3 := hide hw3
            have eC := @eqlCell
            clear hb3 hw3 ho2 hr2
            obtain ⟨A3, c3', hv3, hcl3, -, -, -⟩ := HV3.out.form
            rw [HLN.out] at hv3
            cases hv3
            obtain ⟨⟨r', m', y', d', ⟨f', g', b'⟩⟩, hla⟩ : ∃ q, cAt out (ln - 1) = q := ⟨_, rfl⟩
            obtain ⟨bq, oq, rfl, lq, -⟩ := hcl3.at (i := ln - 1) (by rw [HLN.out]; omega)
            obtain ⟨u0, u1, u2, u3, u4, u5, u6, -⟩ := hcl3.sevenC (ln - 1) (by rw [HLN.out]; omega) hla
            clear hcl3
            obtain ⟨l1, rfl⟩ : ∃ l1, ln = l1 + 1 := ⟨ln - 1, by omega⟩
            rw [Nat.add_sub_cancel] at u0 u1 u2 u3 u4 u5 u6 hla
            have hqq : eqC r m y (d : Int) (f : Int) (gg : Int) (b : Int) r' m' y' (d' : Int) (f' : Int) (g' : Int) (b' : Int) = false := by rw [eqC_cel]; exact decide_eq_false (fun z => HND.out (by rw [Nat.add_sub_cancel, hla, z]))
            clear hla
            obtain ⟨c0, c1, c2, c3, c4, c5, c6, -⟩ := cells7 HD3.out
            have l3 := HD3.out.lt
            go_wp2
            rw [HW3.out]
            go_quiet (fail)
            obtain ⟨w4, hw4⟩ : ∃ w4, w3.drewN nq = w4 := ⟨_, rfl⟩
            rw [hw4]
            have hb4 : Below w3.heap.size w3 w4 := by rw [← hw4]; exact (Below.refl _ _).drewN _
            have HR4 := hide (HR3.out.later hb4)
            have HO4 := hide (only_below HO3.out hb4)
            have HV4 := hide (HV3.out.later hb4).now
            have HS4 := hide (HS3.out.below hb4)
            have HD4 := hide (HD3.out.later hb4)
            clear hb4 hw4 c0 c1 c2 c3 c4 c5 c6 l3
            rw [HOS.out] at HR4
            go_wp2_with fail
            refine (err_s g xs (T, 0) w4 HR4.out).mono ?_
            rintro e w9 ⟨rfl, rfl⟩
            obtain ⟨c0, c1, c2, c3, c4, c5, c6, -⟩ := cells7 HD4.out
            have l4 := HD4.out.lt
            obtain ⟨w5, hw5⟩ : ∃ w5, w4.alloc (.cells #[.int .i32 r, .int .i32 m, .int .i32 y, .int .u8 (d : Int), .int .u8 (f : Int), .int .u8 (gg : Int), .int .u8 (b : Int)] 127) = w5 := ⟨_, rfl⟩
            have hb5 : Below w4.heap.size w4 w5 := by rw [← hw5]; exact (Below.refl _ _).alloc (Nat.le_refl _) _
            have hc5 : Cels .i32 w5 (some ⟨w4.heap.size, 0, none⟩) [⟨r, m, y, d, ⟨f, gg, b⟩⟩] := by rw [← hw5]; exact (Whole.new w4 127 (flatC .i32 [⟨r, m, y, d, ⟨f, gg, b⟩⟩])).cels
            have HC5 := hide hc5
            have HB5 := hide hb5
            have HW5 := hide hw5
            clear hc5 hb5 hw5
            go_wp2_with fail
            rw [HW5.out]
            refine (repeat_any _ 1 ⟨r, m, y, d, ⟨f, gg, b⟩⟩ KK w5 HC5.out hKK (by omega)).mono ?_
            rintro e w6 ⟨g6, rfl, -, hw6, hb6⟩
            rw [List.length_replicate]
            have hb46 := HB5.out.trans (hb6.mono HB5.out.size)
            have HR6 := hide (HR4.out.later hb46)
            have HO6 := hide (only_below HO4.out hb46)
            have HV6 := hide (HV4.out.later hb46).now
            have HS6 := hide (HS4.out.below hb46)
            have HC6 := hide hw6.cels
            clear hw6 hb6 hb46 c0 c1 c2 c3 c4 c5 c6 l4
            go_wp2_with (at_builtin; refine stopw ?_)
            unfold Hid
            refine wpList_catCG elemL rfl _ _ rfl rfl rfl HV6.out HC6.out (by rw [List.length_replicate]) (by intro q; cases q) (by rw [HLN.out]; omega) (by omega) ?_
            intro v' w7 hown hgr
            have HR7 := hide (HR6.out.keepT (rowC_same HV6.out hgr))
            have HO7 := hide (only_belowB HO6.out hown.bel (Nat.le_of_eq HB.out))
            have HS7 := hide (HS6.out.low hown.bel H0B.out)
            have HV7 := hide hown.now
            clear hown hgr
            go_wp2
            go_roundw
            case rel => exact ⟨k + 1, by omega, by go_num, .inr (by rw [HNX.out]), by rw [HNX.out]; exact HR7, by rw [HNX.out]; exact HV7, HO7, HS7⟩
            case measure => simp [intOf]; omega
          · have hne2 : (e2 != 0) = true := by simpa using hz2
            have HNE := hide hne2
            rw [if_neg hz2] at hstep
            have HNIL : Hid (takeD xs s = ((T, e2), [])) := by
              unfold Hid
              have q : loopD xs s0 (k + 1) = ((T, e2), out) := by rw [HSU.out]; exact hstep
              have := take_err (j := k + 1) HU.out (by rw [Int.toNat_natCast]; omega) (by rw [q]; exact hz2)
              rw [q] at this
              exact this
            have hoS : (oneS ((T, E), (⟨r, m, y, d, ⟨f, gg, b⟩⟩ : Cel), ok)) = (T, e2) := Prod.ext rfl hst
            have HOS := hide hoS
            clear hstep hst he2 hz2 hoS hnd hne2
            have HA := hide hA
            have HST := hide hST
            have HCC := hide hCC
            clear hA hST hCC
            go_wp2_with fail
            refine (takeoften_s g xs s2 (512 - (ln : Int)) wr HR.out hb hl (by omega)).mono ?_
            rw [HA.out]
            simp only
            rw [HST.out]
            rintro e w1 ⟨rfl, ho1, hr1⟩
            have HR1 := hide hr1
            have HO1 := hide (HO.out.trans ho1)
            have HV1 := hide (HV.out.keepO ho1 HGB.out)
            have HS1 := hide (ho1.spans HS.out HGZ.out)
            clear ho1 hr1
            go_wp2_with fail
            refine (takecell_s g xs st1 w1 HR1.out hb hl HS1.out).mono ?_
            rw [HCC.out]
            rintro e w2 ⟨rfl, ho2, hr2⟩
            obtain ⟨w3, hw3⟩ : ∃ w3, w2.alloc (.cells #[.int .i32 r, .int .i32 m, .int .i32 y, .int .u8 (d : Int), .int .u8 (f : Int), .int .u8 (gg : Int), .int .u8 (b : Int)] 127) = w3 := ⟨_, rfl⟩
            have hb3 : Below w2.heap.size w2 w3 := by rw [← hw3]; exact (Below.refl _ _).alloc (Nat.le_refl _) _
            have HD3 : Hid (Whole w3 w2.heap.size 127 [.int .i32 r, .int .i32 m, .int .i32 y, .int .u8 (d : Int), .int .u8 (f : Int), .int .u8 (gg : Int), .int .u8 (b : Int)]) := by unfold Hid; rw [← hw3]; exact Whole.new w2 127 _
            have HR3 := hide (hr2.later hb3)
            have HO3 := hide (only_below (HO1.out.trans ho2) hb3)
            have HV3 := hide ((HV1.out.keepO ho2 HGB.out).later hb3).now
            have HS3 := hide ((ho2.spans HS1.out HGZ.out).below hb3)
            have HW3 := hide hw3
            have eC := @eqlCell
            clear hb3 hw3 ho2 hr2
            obtain ⟨A3, c3', hv3, hcl3, -, -, -⟩ := HV3.out.form
            rw [HLN.out] at hv3
            cases hv3
            obtain ⟨⟨r', m', y', d', ⟨f', g', b'⟩⟩, hla⟩ : ∃ q, cAt out (ln - 1) = q := ⟨_, rfl⟩
            obtain ⟨bq, oq, rfl, lq, -⟩ := hcl3.at (i := ln - 1) (by rw [HLN.out]; omega)
            obtain ⟨u0, u1, u2, u3, u4, u5, u6, -⟩ := hcl3.sevenC (ln - 1) (by rw [HLN.out]; omega) hla
            clear hcl3
            obtain ⟨l1, rfl⟩ : ∃ l1, ln = l1 + 1 := ⟨ln - 1, by omega⟩
            rw [Nat.add_sub_cancel] at u0 u1 u2 u3 u4 u5 u6 hla
            have hqq : eqC r m y (d : Int) (f : Int) (gg : Int) (b : Int) r' m' y' (d' : Int) (f' : Int) (g' : Int) (b' : Int) = false := by rw [eqC_cel]; exact decide_eq_false (fun z => HND.out (by rw [Nat.add_sub_cancel, hla, z]))
            clear hla
            obtain ⟨c0, c1, c2, c3, c4, c5, c6, -⟩ := cells7 HD3.out
            have l3 := HD3.out.lt
            go_wp2
            rw [HW3.out]
            go_quiet (fail)
            obtain ⟨w4, hw4⟩ : ∃ w4, w3.drewN nq = w4 := ⟨_, rfl⟩
            rw [hw4]
            have hb4 : Below w3.heap.size w3 w4 := by rw [← hw4]; exact (Below.refl _ _).drewN _
            have HR4 := hide (HR3.out.later hb4)
            have HO4 := hide (only_below HO3.out hb4)
            have HV4 := hide (HV3.out.later hb4).now
            have HS4 := hide (HS3.out.below hb4)
            have HD4 := hide (HD3.out.later hb4)
            clear hb4 hw4 c0 c1 c2 c3 c4 c5 c6 l3
            rw [HOS.out] at HR4
            go_wp2_with fail
            refine (err_s g xs (T, e2) w4 HR4.out).mono ?_
            rintro e w9 ⟨rfl, rfl⟩
            have hne2 := HNE.out
            go_wp2
            go_ret
            refine ⟨none, 0, by rw [HNIL.out]; rfl, by rw [HNIL.out]; exact .nil, by rw [HNIL.out]; exact ⟨Nat.le_refl _, fun _ => rfl⟩, HO4.out, ?_⟩
            rw [HNIL.out]
            exact HR4.out
    · obtain rfl : k = N := by omega
      have he : Hid (takeD xs s = ((loopD xs s0 k).1, (loopD xs s0 k).2)) := by
        unfold Hid
        rcases HE.out with rfl | z
        · by_cases q : (loopD xs s0 0).1.2 = 0
          · exact take_fin HU.out q
          · exact take_err (j := 0) HU.out (Nat.zero_le _) q
        · have := take_fin (V := (k : Int)) HU.out (by rw [Int.toNat_natCast]; exact z)
          rw [Int.toNat_natCast] at this
          exact this
      obtain ⟨A0, cp, rfl, hcl, hcc, hcn, -⟩ := HV.out.typed (C := 0)
      have HCL := hide hcl
      have HCN := hide hcn
      clear hcl hcn
      obtain ⟨X, hX⟩ : ∃ X, loopD xs s0 k = X := ⟨_, rfl⟩
      rw [hX] at HR HCL he hcc ⊢
      obtain ⟨ln, hln⟩ : ∃ ln, X.2.length = ln := ⟨_, rfl⟩
      rw [hln] at hcc ⊢
      have HLN := hide hln
      clear hln hX
      go_wp2
      go_ret
      refine ⟨A0, cp, by rw [he.out, HLN.out]; rfl, by rw [he.out]; exact HCL.out, by rw [he.out, HLN.out]; exact ⟨hcc, HCN.out⟩, HO.out, by rw [he.out]; exact HR.out⟩
end
end Go.Proofs.YtcbdokocnjoilaaDoor
