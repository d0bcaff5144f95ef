/-
  Contracts and plain mathematics of PMem, PArgs.
-/
import Derived.Test.YtkijclgbpbhglaaGreatDoorQd10
import Derived.Test.YtkijclgbpbhglaaGreatDoorQd9
import Derived.Test.YtkijclgbpbhglaaGreatDoorQd14
import Derived.OwnWalk
import Derived.Laws.OwnMore
namespace Go.Proofs.YtkijclgbpbhglaaGreatDoor
set_option maxRecDepth 100000
set_option linter.unusedVariables false
set_option maxHeartbeats 8000000
section
open Go.ChangeShapes Go.WideShapes Go.ChangeAt Go.RowKit
theorem brk_fl (h : List Int) : brkE h = prE (flushed h) := by unfold brkE flushed prE; split <;> rfl
theorem Stays.refl {t : TypeId} {w : World} : Stays t w w := fun _ _ _ => rfl
theorem Stays.of_fr {t t' : TypeId} {w w' : World} {g : Nat} {l : List Value} (h : Fr w.heap.size g w w') (hw : Whole w g t' l) (ht : t ≠ t') : Stays t w w' := by
 intro b cur hb
 refine h.block b (Array.getElem?_eq_some_iff.1 hb).1 ?_
 rintro rfl
 unfold Whole at hw
 rw [hb] at hw
 simp only [Option.some.injEq, Obj.cells.injEq] at hw
 exact ht hw.2.1
theorem Stays.whole {t : TypeId} {w w' : World} {g : Nat} {l : List Value} (h : Stays t w w') (hw : Whole w g t l) : Whole w' g t l := hw.same (h g _ hw)
def IntsT (C : Nat) (t : TypeId) (k : IntKind) (w : World) (a : Option Addr) (zs : List Int) : Prop :=
 zs = [] ∨ ∃ b off, a = some ⟨b, off, none⟩ ∧ (b < C ∨ ∃ cur, w.heap[b]? = some (Obj.cells cur t (0, 0))) ∧ ∀ i, i < zs.length → w.cell? ⟨b, off + i, none⟩ = some (.int k (zs.getD i 0))
section
variable {C : Nat} {t : TypeId} {k : IntKind} {w w' : World} {a : Option Addr} {zs : List Int}
theorem IntsT.nil : IntsT C t k w a [] := .inl rfl
theorem IntsT.ints (h : IntsT C t k w a zs) : Ints k w a zs := by
 rcases h with h | ⟨b, off, ha, _, hc⟩
 ·exact .inl h
 ·exact .inr ⟨b, off, ha, hc⟩
theorem IntsT.keep (h : IntsT C t k w a zs) (hl : ∀ b, b < C → w'.heap[b]? = w.heap[b]?) (hs : Stays t w w') : IntsT C t k w' a zs := by
 rcases h with h | ⟨b, off, ha, hb, hc⟩
 ·exact .inl h
 ·have e : w'.heap[b]? = w.heap[b]? := by
   rcases hb with hb | ⟨cur, hb⟩
   ·exact hl b hb
   ·exact hs b cur hb
  refine .inr ⟨b, off, ha, ?_, fun i hi => ?_⟩
  ·rcases hb with hb | ⟨cur, hb⟩
   ·exact .inl hb
   ·exact .inr ⟨cur, e.trans hb⟩
  ·rw [← hc i hi]; simp only [World.cell?, e]
theorem IntsT.below (h : IntsT C t k w a zs) (hb : Below w.heap.size w w') (hC : C ≤ w.heap.size) : IntsT C t k w' a zs := h.keep (fun b hlt => hb.block b (by omega)) (.of_below hb)
theorem IntsT.take (h : IntsT C t k w a zs) (n : Nat) : IntsT C t k w a (zs.take n) := by
 rcases h with h | ⟨b, off, ha, hb, hc⟩
 ·exact .inl (by simp [h])
 ·refine .inr ⟨b, off, ha, hb, fun i hi => ?_⟩
  rw [List.length_take] at hi
  rw [hc i (by omega)]
  simp [show i < n by omega]
theorem IntsT.drop (h : IntsT C t k w a zs) (n : Nat) : IntsT C t k w (a.map (·.add n)) (zs.drop n) := by
 rcases h with h | ⟨b, off, ha, hb, hc⟩
 ·exact .inl (by simp [h])
 ·refine .inr ⟨b, off + n, ?_, hb, fun i hi => ?_⟩
  ·subst ha; simp only [Option.map_some, Addr.add]; split <;> simp_all
  ·rw [List.length_drop] at hi
   rw [show off + n + i = off + (n + i) by omega, hc (n + i) (by omega)]
   simp [List.getElem?_drop]
theorem IntsT.cut (h : IntsT C t k w a zs) (n cap : Nat) (hc : zs.length ≤ cap) : IntsT C t k w (if cap = n then a else a.map (·.add n)) (zs.drop n) := by
 by_cases e : cap = n
 ·rw [if_pos e]; exact .inl (List.drop_eq_nil_of_le (by omega))
 ·rw [if_neg e]; exact h.drop n
theorem Own.typed {B : Nat} {wr : World} {v : Value} (h : Own t k B w wr v zs) : ∃ A cap, v = .slice A zs.length cap ∧ IntsT C t k wr A zs ∧ zs.length ≤ cap ∧ (A = none → cap = 0) ∧ cap ≤ maxLen := by
 rcases h.own.2 with ⟨rfl, h0⟩ | ⟨g, cap, cur, rfl, _, hh, hc, hm, _, _⟩
 ·have : zs = [] := List.eq_nil_of_length_eq_zero h0
  subst this
  exact ⟨none, 0, rfl, .nil, Nat.le_refl _, fun _ => rfl, Nat.zero_le _⟩
 ·refine ⟨_, cap, rfl, .inr ⟨g, 0, rfl, .inr ⟨cur, hh⟩, fun i hi => ?_⟩, hc, (fun h => by cases h), hm⟩
  rw [Nat.zero_add, h.own.cellAt i (by omega)]
  simp [List.getElem?_eq_getElem hi]
theorem IntsT.new (w : World) (t : TypeId) (zs : List Int) : IntsT C t k (w.alloc (.cells (zs.map (Value.int k)).toArray t)) (some ⟨w.heap.size, 0, none⟩) zs := by
 refine .inr ⟨_, _, rfl, .inr ⟨_, heap_alloc_new w _⟩, fun i hi => ?_⟩
 rw [Nat.zero_add, cell_of_row _ w.heap.size i _ t (0, 0) (heap_alloc_new w _)]
 simp [List.getElem?_eq_getElem hi]
end
structure Ea where
 e : Ev
 A : Option Addr
 c : Nat
def eaL (k : IntKind) (x : Ea) : List Value := [.int .i64 x.e.k, .int k x.e.r, .slice x.A x.e.n.length x.c]
def flatE (k : IntKind) (l : List Ea) : List Value := l.flatMap (eaL k)
def EaOk (C : Nat) (w : World) (x : Ea) : Prop := IntsT C 3 .i64 w x.A x.e.n
theorem flatE_len (k : IntKind) (l : List Ea) : (flatE k l).length = l.length * 3 := by
 induction l with
 | nil => rfl
 | cons c cs ih => unfold flatE at ih ⊢; rw [List.flatMap_cons, List.length_append, ih, List.length_cons]; show 3 + _ = _; omega
theorem flatE_append (k : IntKind) (a b : List Ea) : flatE k (a ++ b) = flatE k a ++ flatE k b := by unfold flatE; simp
theorem flatE_get (k : IntKind) (l : List Ea) : ∀ (i d : Nat), d < 3 → (flatE k l)[i * 3 + d]? = (l[i]?).bind (fun c => (eaL k c)[d]?) := by
 induction l with
 | nil => intro i d _; simp [flatE]
 | cons c cs ih =>
  intro i d hd
  have hl : (eaL k c).length = 3 := rfl
  unfold flatE at ih ⊢
  rw [List.flatMap_cons]
  cases i with
  | zero => rw [List.getElem?_append_left (by omega)]; simp
  | succ i =>
   rw [List.getElem?_append_right (by omega), hl, show (i + 1) * 3 + d - 3 = i * 3 + d by omega, ih i d hd]
   simp
theorem flatE_one (k : IntKind) (l : List Ea) : ∀ u ∈ flatE k l, u.oneCell' = true := by
 intro u hu
 unfold flatE at hu
 obtain ⟨c, _, hc⟩ := List.mem_flatMap.1 hu
 simp only [eaL, List.mem_cons, List.not_mem_nil, or_false] at hc
 rcases hc with rfl | rfl | rfl <;> rfl
theorem flatE_take (k : IntKind) (l : List Ea) (n : Nat) : flatE k (l.take n) = (flatE k l).take (n * 3) := by
 induction l generalizing n with
 | nil => simp [flatE]
 | cons c cs ih =>
  cases n with
  | zero => simp [flatE]
  | succ n =>
   have hl : (eaL k c).length = 3 := rfl
   have e := ih n
   unfold flatE at e ⊢
   rw [List.take_succ_cons, List.flatMap_cons, List.flatMap_cons, e, List.take_append, hl, show (n + 1) * 3 - 3 = n * 3 by omega, List.take_of_length_le (by omega : (eaL k c).length ≤ (n + 1) * 3)]
theorem EaOk.keep {C : Nat} {w w' : World} {x : Ea} (h : EaOk C w x) (hl : ∀ b, b < C → w'.heap[b]? = w.heap[b]?) (hs : Stays 3 w w') : EaOk C w' x := IntsT.keep h hl hs
def Evs (C : Nat) (te : TypeId) (k : IntKind) (w : World) (A : Option Addr) (es : List Ev) : Prop :=
 ∃ l : List Ea, l.map (·.e) = es ∧ (∀ x ∈ l, EaOk C w x) ∧ (l = [] ∨ ∃ b off, A = some ⟨b, off, none⟩ ∧ (b < C ∨ ∃ cur, w.heap[b]? = some (Obj.cells cur te (0, 0))) ∧ ∀ j v, (flatE k l)[j]? = some v → w.cell? ⟨b, off + j, none⟩ = some v)
section
variable {C : Nat} {te : TypeId} {k : IntKind} {w w' : World} {A : Option Addr} {es : List Ev}
theorem Evs.nil : Evs C te k w A [] := ⟨[], rfl, by simp, .inl rfl⟩
theorem Evs.keep (h : Evs C te k w A es) (hl : ∀ b, b < C → w'.heap[b]? = w.heap[b]?) (hs : Stays 3 w w') (ht : Stays te w w') : Evs C te k w' A es := by
 obtain ⟨l, he, hok, h⟩ := h
 refine ⟨l, he, fun x hx => (hok x hx).keep hl hs, ?_⟩
 rcases h with h | ⟨b, off, ha, hb, hc⟩
 ·exact .inl h
 ·have e : w'.heap[b]? = w.heap[b]? := by
   rcases hb with hb | ⟨cur, hb⟩
   ·exact hl b hb
   ·exact ht b cur hb
  refine .inr ⟨b, off, ha, ?_, fun j v hj => ?_⟩
  ·rcases hb with hb | ⟨cur, hb⟩
   ·exact .inl hb
   ·exact .inr ⟨cur, e.trans hb⟩
  ·rw [← hc j v hj]; simp only [World.cell?, e]
theorem Evs.below (h : Evs C te k w A es) (hb : Below w.heap.size w w') (hC : C ≤ w.heap.size) : Evs C te k w' A es := h.keep (fun b hlt => hb.block b (by omega)) (.of_below hb) (.of_below hb)
theorem Evs.take (h : Evs C te k w A es) (n : Nat) : Evs C te k w A (es.take n) := by
 obtain ⟨l, he, hok, h⟩ := h
 refine ⟨l.take n, by rw [← he, List.map_take], fun x hx => hok x (List.mem_of_mem_take hx), ?_⟩
 rcases h with h | ⟨b, off, ha, hb, hc⟩
 ·exact .inl (by simp [h])
 ·refine .inr ⟨b, off, ha, hb, fun j v hj => hc j v ?_⟩
  rw [flatE_take, List.getElem?_take] at hj
  split at hj
  ·exact hj
  ·cases hj
def evAt (es : List Ev) (i : Nat) : Ev := es.getD i ⟨0, 0, []⟩
theorem Evs.at (h : Evs C te k w A es) {i : Nat} (hi : i < es.length) : ∃ b off A' c', A = some ⟨b, off, none⟩ ∧ b < w.heap.size ∧ w.cell? ⟨b, off + i * 3, none⟩ = some (.int .i64 (evAt es i).k) ∧
  w.cell? ⟨b, off + i * 3 + 1, none⟩ = some (.int k (evAt es i).r) ∧ w.cell? ⟨b, off + i * 3 + 2, none⟩ = some (.slice A' (evAt es i).n.length c') ∧ IntsT C 3 .i64 w A' (evAt es i).n := by
 obtain ⟨l, rfl, hok, h⟩ := h
 rw [List.length_map] at hi
 rcases h with rfl | ⟨b, off, ha, hb, hc⟩
 ·simp at hi
 ·have hx : l[i]? = some l[i] := List.getElem?_eq_getElem hi
  have he : evAt (l.map (·.e)) i = l[i].e := by unfold evAt; rw [List.getD_eq_getElem?_getD, List.getElem?_map, hx]; rfl
  have g : ∀ d v, d < 3 → (eaL k l[i])[d]? = some v → w.cell? ⟨b, off + i * 3 + d, none⟩ = some v := by
   intro d v hd hv
   rw [Nat.add_assoc]
   exact hc _ v (by rw [flatE_get k l i d hd, hx]; exact hv)
  have g0 := g 0 _ (by omega) rfl
  refine ⟨b, off, l[i].A, l[i].c, ha, block_lt_of_cell g0, ?_, ?_, ?_, ?_⟩
  ·rw [he]; exact g0
  ·rw [he]; exact g 1 _ (by omega) rfl
  ·rw [he]; exact g 2 _ (by omega) rfl
  ·rw [he]; exact hok _ (List.getElem_mem hi)
end
structure ElemE (P : Program) (S e : TypeId) (k : IntKind) (bytes : Nat) : Prop where
 under : P.underlying S = some (.slice e)
 info : (P.info? e).map (fun i => (i.zero, i.size, i.bytes)) = some (some (.agg #[.int .i64 0, .int k 0, .slice none 0 0]), 3, bytes)
theorem elemEv : ElemE Tryz.prog 54 56 .i32 40 := ⟨Tryz.underlying54, by kernel_rfl⟩
theorem elemE : ElemE Tryz.prog 105 60 .i64 40 := ⟨Tryz.underlying105, by kernel_rfl⟩
structure OwnE (C : Nat) (te : TypeId) (k : IntKind) (B : Nat) (w wr : World) (v : Value) (es : List Ev) : Prop where
 row : ∃ l : List Ea, l.map (·.e) = es ∧ wr.ownsRow B te 3 v l.length (flatE k l) ∧ ∀ x ∈ l, EaOk C wr x
 bel : Below B w wr
 le : B ≤ wr.heap.size
 cle : C ≤ B
section
variable {C : Nat} {te : TypeId} {k : IntKind} {B : Nat} {w wr w1 : World} {v : Value} {es : List Ev}
theorem OwnE.start (hB : B ≤ w.heap.size) (hC : C ≤ B) : OwnE C te k B w w (.slice none 0 0) [] := ⟨⟨[], rfl, World.ownsRow_nil _ _ _ _, by simp⟩, Below.refl _ _, hB, hC⟩
theorem OwnE.from0 (hB : B ≤ wr.heap.size) (hb : Below B w wr) (hC : C ≤ B) : OwnE C te k B w wr (.slice none 0 0) [] := ⟨⟨[], rfl, World.ownsRow_nil _ _ _ _, by simp⟩, hb, hB, hC⟩
theorem OwnE.empty (w : World) (hC : C ≤ w.heap.size) : OwnE C te k w.heap.size w (w.alloc (.cells #[] te)) (.slice (some ⟨w.heap.size, 0, none⟩) 0 0) [] :=
 ⟨⟨[], rfl, ⟨by simp [flatE], .inr ⟨w.heap.size, 0, #[], rfl, Nat.le_refl _, heap_alloc_new w _, Nat.le_refl _, Nat.zero_le _, rfl, rfl⟩⟩, by simp⟩, (Below.refl _ _).alloc (Nat.le_refl _) _, by simp, hC⟩
theorem OwnE.now (h : OwnE C te k B w wr v es) : OwnE C te k B wr wr v es := ⟨h.row, Below.refl _ _, h.le, h.cle⟩
theorem OwnE.since (h : OwnE C te k B wr wr v es) (hb : Below B w wr) : OwnE C te k B w wr v es := ⟨h.row, hb, h.le, h.cle⟩
theorem OwnE.less {B' : Nat} (h : OwnE C te k B w wr v es) (hB : B' ≤ B) (hC : C ≤ B') : OwnE C te k B' w wr v es := by
 obtain ⟨l, he, ho, hok⟩ := h.row
 refine ⟨⟨l, he, ⟨ho.1, ?_⟩, hok⟩, h.bel.mono hB, by have := h.le; omega, hC⟩
 rcases ho.2 with h0 | ⟨g, cap, cur, hv, hb, h1⟩
 ·exact .inl h0
 ·exact .inr ⟨g, cap, cur, hv, by omega, h1⟩
theorem OwnE.form (h : OwnE C te k B w wr v es) : ∃ A cap, v = .slice A es.length cap ∧ Evs C te k wr A es ∧ es.length ≤ cap ∧ (A = none → cap = 0) ∧ cap ≤ maxLen := by
 obtain ⟨l, rfl, ho, hok⟩ := h.row
 rw [List.length_map]
 rcases ho.2 with ⟨rfl, h0⟩ | ⟨g, cap, cur, rfl, _, hh, hc, hm, _, _⟩
 ·have : l = [] := List.eq_nil_of_length_eq_zero h0
  subst this
  exact ⟨none, 0, rfl, .nil, Nat.le_refl _, fun _ => rfl, Nat.zero_le _⟩
 ·refine ⟨_, cap, rfl, ⟨l, rfl, hok, .inr ⟨g, 0, rfl, .inr ⟨cur, hh⟩, fun i v hi => ?_⟩⟩, hc, (fun h => by cases h), hm⟩
  have := ho.cells (g := g) rfl i v hi
  rwa [show (⟨g, 0, none⟩ : Addr).add i = ⟨g, 0 + i, none⟩ by unfold Addr.add; split <;> simp_all] at this
theorem OwnE.slice (h : OwnE C te k B w wr v es) : ∃ A n cap, v = .slice A n cap := by obtain ⟨A, cap, e, _⟩ := h.form; exact ⟨A, _, cap, e⟩
theorem OwnE.keep (h : OwnE C te k B wr wr v es) (hl : ∀ b, b < C → w1.heap[b]? = wr.heap[b]?) (hs : Stays 3 wr w1) (ht : Stays te wr w1) (hz : wr.heap.size ≤ w1.heap.size) : OwnE C te k B w1 w1 v es := by
 obtain ⟨l, he, ho, hok⟩ := h.row
 refine ⟨⟨l, he, ⟨ho.1, ?_⟩, fun x hx => (hok x hx).keep hl hs⟩, Below.refl _ _, Nat.le_trans h.le hz, h.cle⟩
 rcases ho.2 with h0 | ⟨g, cap, cur, hv, hB, hh, h1⟩
 ·exact .inl h0
 ·exact .inr ⟨g, cap, cur, hv, hB, (ht g cur hh).trans hh, h1⟩
theorem OwnE.later (h : OwnE C te k B w wr v es) (hb : Below wr.heap.size wr w1) : OwnE C te k B w w1 v es :=
 (h.now.keep (fun b hlt => hb.block b (by have := h.le; have := h.cle; omega)) (.of_below hb) (.of_below hb) hb.size).since (h.bel.trans (hb.mono h.le))
theorem OwnE.alloc (h : OwnE C te k B w wr v es) (o : Obj) : OwnE C te k B w (wr.alloc o) v es := h.later ((Below.refl _ _).alloc (Nat.le_refl _) _)
theorem OwnE.grown {v' : Value} {l : List Ea} {ns : List Ea} (h : OwnE C te k B w wr v es) (he : l.map (·.e) = es) (hrow : wr.ownsRow B te 3 v l.length (flatE k l)) (hok : ∀ x ∈ l, EaOk C wr x) (hns : ∀ x ∈ ns, EaOk C wr x) (h3 : te ≠ 3)
  (h1 : w1.ownsRow B te 3 v' (l.length + ns.length) (flatE k l ++ flatE k ns)) (hg : wr.grownBy w1 v.ownBlock) : OwnE C te k B w w1 v' (es ++ ns.map (·.e)) ∧ (∀ t, t ≠ te → Stays t wr w1) ∧ Below B wr w1 := by
 have far : ∀ t, t ≠ te → Stays t wr w1 := by
  intro t ht g cur hh
  refine hg.block g (Array.getElem?_eq_some_iff.1 hh).1 ?_
  intro q
  rcases hrow.2 with ⟨rfl, _⟩ | ⟨g2, cap, cur2, rfl, _, hh2, _⟩
  ·cases q
  ·have : g = g2 := by simpa [Value.ownBlock] using q
   subst this
   rw [hh] at hh2
   simp only [Option.some.injEq, Obj.cells.injEq] at hh2
   exact ht hh2.2.1
 have hb1 : Below B wr w1 := (Below.refl _ _).grown hg h.le (own_ge hrow)
 have low : ∀ b, b < C → w1.heap[b]? = wr.heap[b]? := fun b hlt => hb1.block b (by have := h.cle; omega)
 refine ⟨⟨⟨l ++ ns, by rw [List.map_append, he], by simpa [flatE_append] using h1, ?_⟩, h.bel.grown hg h.le (own_ge hrow), Nat.le_trans h.le hg.size, h.cle⟩, far, hb1⟩
 intro x hx
 rcases List.mem_append.1 hx with q | q
 ·exact (hok x q).keep low (far 3 (Ne.symm h3))
 ·exact (hns x q).keep low (far 3 (Ne.symm h3))
end
theorem cells_new3 (w : World) (l : List Value) (t : TypeId) : ∀ j u, l[j]? = some u → (w.alloc (.cells l.toArray t)).cell? ((⟨w.heap.size, 0, none⟩ : Addr).add j) = some u := by
 intro j u hj
 rw [show (⟨w.heap.size, 0, none⟩ : Addr).add j = ⟨w.heap.size, j, none⟩ by unfold Addr.add; split <;> simp_all, (Whole.new w t l).cell j, hj]
theorem wpList_pushE {P : Program} {S te : TypeId} {k : IntKind} {bytes : Nat} (E : ElemE P S te k bytes) {ops : Array Oper} {rest : List Oper} {o : Oper} {a : Act} {Q : Exit → Act → World → Prop} {C B : Nat} {w wr : World} {v : Value} {es : List Ev} (kd r : Int) (N : Option Addr) (c : Nat) (ns : List Int) (n : Nat) (hn : ns.length = n) (hi : IntsT C 3 .i64 wr N ns)
  (hgd : Region.wanted o (yielded ops a.tmps) = true) (s y : Operand) (ho : o.op = .call { callee := .builtin .append, args := #[s, y], argTypes := #[S, S] })
  (hs : a.eval s = v) (hy : a.eval y = .slice (some ⟨wr.heap.size, 0, none⟩) 1 1) (hown : OwnE C te k B w wr v es) (hlen : es.length ≤ 1000000) (hby : bytes ≤ 1000) (h3 : te ≠ 3)
  (h : ∀ v' w1, OwnE C te k B w w1 v' (es ++ [⟨kd, r, ns⟩]) → (∀ t, t ≠ te → Stays t (wr.alloc (.cells #[.int .i64 kd, .int k r, .slice N n c] te)) w1) → Below B (wr.alloc (.cells #[.int .i64 kd, .int k r, .slice N n c] te)) w1 → wpList P ops Q rest (a.put o.dst v') w1) :
  wpList P ops Q (o :: rest) a (wr.alloc (.cells #[.int .i64 kd, .int k r, .slice N n c] te)) := by
 subst hn
 obtain ⟨i0, hi0, hz0, hz1, hz2⟩ := info_parts E.info
 have hown' := hown.alloc (.cells #[.int .i64 kd, .int k r, .slice N ns.length c] te)
 obtain ⟨l, he, hrow, hok⟩ := hown'.row
 have hl : l.length = es.length := by rw [← he, List.length_map]
 have hb : (l.length + 1) * bytes ≤ 1000001 * 1000 := Nat.mul_le_mul (by omega) hby
 have hx : EaOk C (wr.alloc (.cells #[.int .i64 kd, .int k r, .slice N ns.length c] te)) ⟨⟨kd, r, ns⟩, N, c⟩ := IntsT.below hi ((Below.refl _ _).alloc (Nat.le_refl _) _) (by have := hown.le; have := hown.cle; omega)
 refine wpList_want hgd fun K hK => ?_
 refine wp_append_own _ s y S ho B te i0 _ 3 bytes E.under hi0 hz0 hz1 hz2 rfl (by decide) v l.length _ hs hrow ⟨wr.heap.size, 0, none⟩ 1 1 (eaL k ⟨⟨kd, r, ns⟩, N, c⟩) hy rfl (cells_new3 _ (eaL k ⟨⟨kd, r, ns⟩, N, c⟩) te) (by have := flatE_one k [⟨⟨kd, r, ns⟩, N, c⟩]; simpa [flatE] using this)
  (by unfold maxLen; omega) (by omega) (by have := hown.le; simp; omega) ?_
 intro v' w1 h1 hg _
 obtain ⟨q1, q2, q3⟩ := hown'.grown (ns := [⟨⟨kd, r, ns⟩, N, c⟩]) he hrow hok (by intro x hx'; simp at hx'; subst hx'; exact hx) h3 (by simpa [flatE] using h1) hg
 exact hK _ _ (h v' w1 q1 q2 q3)
theorem wpList_catE {P : Program} {S te : TypeId} {k : IntKind} {bytes : Nat} (E : ElemE P S te k bytes) {ops : Array Oper} {rest : List Oper} {o : Oper} {a : Act} {Q : Exit → Act → World → Prop} {C B : Nat} {w wr : World} {v : Value} {es ns : List Ev} {A : Option Addr} {n c : Nat}
  (hgd : Region.wanted o (yielded ops a.tmps) = true) (s y : Operand) (ho : o.op = .call { callee := .builtin .append, args := #[s, y], argTypes := #[S, S] })
  (hs : a.eval s = v) (hy : a.eval y = .slice A n c) (hown : OwnE C te k B w wr v es) (hns : Evs C te k wr A ns) (hn : ns.length = n) (hc : A = none → c = 0) (hlen : es.length + n ≤ 1000000) (hby : bytes ≤ 1000) (h3 : te ≠ 3)
  (h : ∀ v' w1, OwnE C te k B w w1 v' (es ++ ns) → (∀ t, t ≠ te → Stays t wr w1) → Below B wr w1 → wpList P ops Q rest (a.put o.dst v') w1) : wpList P ops Q (o :: rest) a wr := by
 subst hn
 obtain ⟨i0, hi, hz0, hz1, hz2⟩ := info_parts E.info
 obtain ⟨l, he, hrow, hok⟩ := hown.row
 obtain ⟨m, rfl, hmok, hm⟩ := hns
 rw [List.length_map] at *
 have hl : l.length = es.length := by rw [← he, List.length_map]
 have hb : (l.length + m.length) * bytes ≤ 1000000 * 1000 := Nat.mul_le_mul (by omega) hby
 refine wpList_want hgd fun K hK => ?_
 cases A with
 | none =>
  have hn : m = [] := by
   rcases hm with h | ⟨_, _, h, _⟩
   ·exact h
   ·cases h
  subst hn
  obtain rfl : c = 0 := hc rfl
  have hrun := run_append_owned_none (P := P) (w := wr) B S o.type te i0 3 E.under hi v l.length _ hrow
  unfold Oper.wp
  simp [execOp, ho, resolve, invoke, builtin, hs, hy, hrun, Result.andThen]
  exact hK _ _ (h v wr (by simpa using hown) (fun _ _ => Stays.refl) (Below.refl _ _))
 | some ad =>
  refine wp_append_own _ s y S ho B te i0 _ 3 bytes E.under hi hz0 hz1 hz2 rfl (by decide) v l.length _ hs hrow ad m.length c (flatE k m) hy (flatE_len k m) ?_ (flatE_one k m)
   (by unfold maxLen; omega) (by omega) hown.le ?_
  ·intro j u hu
   rcases hm with rfl | ⟨b, off, e1, _, hcell⟩
   ·simp [flatE] at hu
   ·cases e1
    rw [show (⟨b, off, none⟩ : Addr).add j = ⟨b, off + j, none⟩ by unfold Addr.add; split <;> simp_all]
    exact hcell j u hu
  ·intro v' w1 h1 hg _
   obtain ⟨q1, q2, q3⟩ := hown.grown (ns := m) he hrow hok hmok h3 h1 hg
   exact hK _ _ (h v' w1 q1 q2 q3)
theorem final_any (c : Int) (w : World) (h0 : 0 ≤ c) (h1 : c ≤ 255) : Calls Tryz.prog 88 #[.int .u8 c] w fun e w' => e = .returned (.bool (finB c)) ∧ w = w' := by
 rcases (by omega : c < 64 ∨ (64 ≤ c ∧ c ≤ 126) ∨ 126 < c) with h | h | h
 ·have E : Hid (finB c = false) := by unfold Hid finB; simp; omega
  go_enter Tryz.func88, Tryz.ntmps88
  go_wp2; go_ret
  exact ⟨ret_bool (by rw [E.out]), rfl⟩
 ·have E : Hid (finB c = true) := by unfold Hid finB; simp; omega
  obtain ⟨h2, h3⟩ := h
  go_enter Tryz.func88, Tryz.ntmps88
  go_wp2; go_ret
  exact ⟨ret_bool (by rw [E.out]), rfl⟩
 ·have E : Hid (finB c = false) := by unfold Hid finB; simp; omega
  go_enter Tryz.func88, Tryz.ntmps88
  go_wp2; go_ret
  exact ⟨ret_bool (by rw [E.out]; simp; omega), rfl⟩
theorem bbet_any (c : Int) (w : World) (h0 : 32 ≤ c) (h1 : c ≤ 255) : Calls Tryz.prog 86 #[.int .u8 c] w fun e w' => e = .returned (.int .i64 (bbetN c)) ∧ w = w' := by
 by_cases h : c ≤ 47
 ·have E : Hid (bbetN c = 2) := by unfold Hid bbetN; rw [if_pos h]
  go_enter Tryz.func86, Tryz.ntmps86
  go_wp2; go_ret
  exact ⟨ret_int (by rw [E.out]), rfl⟩
 ·have E : Hid (bbetN c = 0) := by unfold Hid bbetN; rw [if_neg h]
  go_enter Tryz.func86, Tryz.ntmps86
  go_wp2; go_ret
  exact ⟨ret_int (by rw [E.out]), rfl⟩
theorem besc_any (c : Int) (w : World) (h0 : 32 ≤ c) (h1 : c ≤ 255) : Calls Tryz.prog 85 #[.int .u8 c] w fun e w' => e = .returned (.int .i64 (bescN c)) ∧ w = w' := by
 by_cases h : c = 91
 ·subst h
  go_enter Tryz.func85, Tryz.ntmps85
  go_wp2; go_ret
  exact ⟨rfl, rfl⟩
 ·have E : Hid (bescN c = bbetN c) := by unfold Hid bescN; rw [if_neg h]
  have hq : (c == 91) = false := by simp [h]
  go_enter Tryz.func85, Tryz.ntmps85
  go_wp2_with fail
  refine (bbet_any c w h0 h1).mono ?_
  rintro e w1 ⟨rfl, rfl⟩
  go_wp2; go_ret
  exact ⟨ret_int (by rw [E.out]), rfl⟩
def tailV (l : List Int) (n : Nat) (st : Int) : List Value := l.map (Value.int .i64) ++ [.int .i64 n, .int .i64 st]
def Pr (w : World) (g : Nat) (p : Ps) : Prop := ∃ l, Args l p.n ∧ Strm 93 (tailV l (min p.n.length 9) p.st) w g p.h
section
variable {T : TypeId} {R : List Value} {w w' : World} {g : Nat} {h : List Int}
theorem Strm.cellR (s : Strm T R w g h) (i : Nat) (u : Value) (hu : R[i]? = some u) : w.cell? ⟨g, 5 + i, none⟩ = some u := by
 obtain ⟨b, hb, hw, _⟩ := s
 rw [hw.cell, List.getElem?_append_right (by simp [hb]; omega)]
 simp only [List.length_map, hb, show 5 + i - 4 = i + 1 by omega, List.getElem?_cons_succ]
 exact hu
theorem Strm.tail (s : Strm T R w g h) (i : Nat) (u : Value) : Strm T (R.set i u) (w.setCell ⟨g, 5 + i, none⟩ u) g h := by
 obtain ⟨b, hb, hw, h1⟩ := s
 refine ⟨b, hb, ?_, h1⟩
 have := hw.put (5 + i) u
 rw [List.set_append_right _ _ (by simp [hb]; omega)] at this
 simp only [List.length_map, hb, show 5 + i - 4 = i + 1 by omega, List.set_cons_succ] at this
 exact this
theorem Strm.whole (s : Strm T R w g h) : ∃ l, Whole w g T l := by obtain ⟨b, hb, hw, _⟩ := s; exact ⟨_, hw⟩
theorem Strm.same (s : Strm T R w g h) (e : w'.heap[g]? = w.heap[g]?) : Strm T R w' g h := by
 obtain ⟨b, hb, hw, h1⟩ := s
 exact ⟨b, hb, hw.same e, h1⟩
end
theorem tail_num {l : List Int} (hl : l.length = 9) (n : Nat) (st : Int) (i : Nat) (hi : i < 9) : (tailV l n st)[i]? = some (.int .i64 (l.getD i 0)) := by
 unfold tailV
 rw [List.getElem?_append_left (by simp; omega)]
 simp [List.getElem?_eq_getElem (show i < l.length by omega)]
theorem tail_cnt {l : List Int} (hl : l.length = 9) (n : Nat) (st : Int) : (tailV l n st)[9]? = some (.int .i64 n) := by
 unfold tailV
 rw [List.getElem?_append_right (by simp; omega)]
 simp [hl]
theorem tail_st {l : List Int} (hl : l.length = 9) (n : Nat) (st : Int) : (tailV l n st)[10]? = some (.int .i64 st) := by
 unfold tailV
 rw [List.getElem?_append_right (by simp; omega)]
 simp [hl]
theorem tail_setn {l : List Int} (hl : l.length = 9) (n : Nat) (st : Int) (i : Nat) (hi : i < 9) (x : Int) : (tailV l n st).set i (.int .i64 x) = tailV (l.set i x) n st := by
 unfold tailV
 rw [List.set_append_left _ _ (by simp; omega), List.map_set]
theorem tail_setc {l : List Int} (hl : l.length = 9) (n m : Nat) (st : Int) : (tailV l n st).set 9 (.int .i64 m) = tailV l m st := by
 unfold tailV
 rw [List.set_append_right _ _ (by simp; omega)]
 simp [hl]
theorem tail_sets {l : List Int} (hl : l.length = 9) (n : Nat) (st x : Int) : (tailV l n st).set 10 (.int .i64 x) = tailV l n x := by
 unfold tailV
 rw [List.set_append_right _ _ (by simp; omega)]
 simp [hl]
section
variable {w w' : World} {g : Nat} {p : Ps}
theorem Pr.lt (h : Pr w g p) : g < w.heap.size := by obtain ⟨l, _, hs⟩ := h; exact hs.lt
theorem Pr.st (h : Pr w g p) : w.cell? ⟨g, 15, none⟩ = some (.int .i64 p.st) := by obtain ⟨l, ha, hs⟩ := h; exact hs.cellR 10 _ (tail_st ha.len _ _)
theorem Pr.cnt (h : Pr w g p) : w.cell? ⟨g, 14, none⟩ = some (.int .i64 ((min p.n.length 9 : Nat) : Int)) := by obtain ⟨l, ha, hs⟩ := h; exact hs.cellR 9 _ (tail_cnt ha.len _ _)
theorem Pr.frozen (h : Pr w g p) (i : Nat) : w.frozen? ⟨g, i, none⟩ = false := by obtain ⟨l, ha, hs⟩ := h; exact hs.frozen i
theorem Pr.same (h : Pr w g p) (e : w'.heap[g]? = w.heap[g]?) : Pr w' g p := by obtain ⟨l, ha, hs⟩ := h; exact ⟨l, ha, hs.same e⟩
theorem Pr.later (h : Pr w g p) (hb : Below w.heap.size w w') : Pr w' g p := h.same (hb.block g h.lt)
theorem Pr.drewN (h : Pr w g p) (n : Nat) : Pr (w.drewN n) g p := h
theorem Pr.drew (h : Pr w g p) : Pr w.drew g p := h
theorem Pr.whole (h : Pr w g p) : ∃ l, Whole w g 93 l := by obtain ⟨l, ha, hs⟩ := h; exact hs.whole
theorem Pr.setst (h : Pr w g p) (x : Int) : Pr (w.setCell ⟨g, 15, none⟩ (.int .i64 x)) g ⟨x, p.n, p.h⟩ := by
 obtain ⟨l, ha, hs⟩ := h
 refine ⟨l, ha, ?_⟩
 have := hs.tail 10 (.int .i64 x)
 rw [tail_sets ha.len] at this
 exact this
theorem Pr.stays (h : Pr w g p) (hf : Fr w.heap.size g w w') {t : TypeId} (ht : t ≠ 93) : Stays t w w' := by obtain ⟨l, hw⟩ := h.whole; exact .of_fr hf hw ht
theorem Pr.new (w : World) : Pr (w.alloc (.cells #[.int .u8 0, .int .u8 0, .int .u8 0, .int .u8 0, .int .i64 0, .int .i64 0, .int .i64 0, .int .i64 0, .int .i64 0, .int .i64 0, .int .i64 0, .int .i64 0, .int .i64 0, .int .i64 0, .int .i64 0, .int .i64 0] 93)) w.heap.size p0 :=
 ⟨[0, 0, 0, 0, 0, 0, 0, 0, 0], ⟨rfl, by intro x hx; simp at hx; omega, rfl⟩, [0, 0, 0, 0], rfl, Whole.new w 93 _, rfl, by decide⟩
end
section
variable {w : World} {g : Nat} {p : Ps}
theorem anone_any (h : Pr w g p) : Calls Tryz.prog 83 #[.pointer (some ⟨g, 5, none⟩)] w fun e w' => e = .returned (.tuple #[]) ∧ Pr w' g ⟨p.st, [], p.h⟩ ∧ Fr w.heap.size g w w' := by
 have c1 := h.cnt
 have z1 := h.frozen 14
 have lt := h.lt
 generalize ((min p.n.length 9 : Nat) : Int) = c at c1
 have H1 : Hid (Pr (w.setCell ⟨g, 14, none⟩ (.int .i64 0)) g ⟨p.st, [], p.h⟩) := by
  obtain ⟨l, ha, hs⟩ := h
  refine ⟨l, ha.nil, ?_⟩
  have := hs.tail 9 (.int .i64 ((0 : Nat) : Int))
  rw [tail_setc ha.len] at this
  exact this
 clear h
 go_enter Tryz.func83, Tryz.ntmps83
 go_wp2
 exact bodyPost_end (v := .tuple #[]) (by simp [results, Tryz.results83]) rfl ⟨rfl, H1.out, Fr.put 14 _⟩
theorem abegin_any (h : Pr w g p) : Calls Tryz.prog 170 #[.pointer (some ⟨g, 5, none⟩)] w fun e w' => e = .returned (.tuple #[]) ∧ Pr w' g ⟨p.st, p.n ++ [-1], p.h⟩ ∧ Fr w.heap.size g w w' := by
 have c1 := h.cnt
 have z1 := h.frozen 14
 have lt := h.lt
 by_cases hc : p.n.length < 9
 ·obtain ⟨c, hcc⟩ := exq (p.n.length)
  rw [hcc, Nat.min_eq_left (by omega : c ≤ 9)] at c1
  have c9 : (c : Int) + 1 ≤ 9 := by omega
  have c0 : (0 : Int) ≤ (c : Int) := by omega
  have c8 : (c : Int) < 9 := by omega
  have S1 : ∃ u, (w.setCell ⟨g, 14, none⟩ (.int .i64 ((c : Int) + 1))).cell? ⟨g, 14, none⟩ = some (.int .i64 ((c : Int) + 1)) ∧ (w.setCell ⟨g, 14, none⟩ (.int .i64 ((c : Int) + 1))).cell? ⟨g, 5 + c, none⟩ = some (.int .i64 u) ∧
    (w.setCell ⟨g, 14, none⟩ (.int .i64 ((c : Int) + 1))).frozen? ⟨g, 5 + c, none⟩ = false ∧ g < (w.setCell ⟨g, 14, none⟩ (.int .i64 ((c : Int) + 1))).heap.size ∧
    Pr ((w.setCell ⟨g, 14, none⟩ (.int .i64 ((c : Int) + 1))).setCell ⟨g, 5 + c, none⟩ (.int .i64 (-1))) g ⟨p.st, p.n ++ [-1], p.h⟩ := by
   obtain ⟨l, ha, hs⟩ := h
   have h1 := hs.tail 9 (.int .i64 ((c + 1 : Nat) : Int))
   rw [tail_setc ha.len] at h1
   have e1 : ((c + 1 : Nat) : Int) = (c : Int) + 1 := by omega
   rw [e1] at h1
   refine ⟨l.getD c 0, ?_, h1.cellR c _ (tail_num ha.len _ _ c (by omega)), h1.frozen _, h1.lt, ?_⟩
   ·rw [← e1]; exact h1.cellR 9 _ (tail_cnt ha.len _ _)
   ·refine ⟨l.set c (-1), ?_, ?_⟩
    ·have := ha.begin
     rw [hcc, Nat.min_eq_left (by omega : c ≤ 8)] at this
     exact this
    ·have h2 := h1.tail c (.int .i64 (-1))
     rw [tail_setn ha.len _ _ c (by omega)] at h2
     show Strm _ (tailV _ (min (p.n ++ [-1]).length 9) _) _ _ _
     rw [List.length_append, hcc]
     simp only [List.length_cons, List.length_nil, Nat.zero_add]
     rw [Nat.min_eq_left (by omega : c + 1 ≤ 9)]
     exact h2
  obtain ⟨u, s1, s2, s3, s4, s5⟩ := S1
  have H5 := hide s5
  have HF : Hid (Fr w.heap.size g w ((w.setCell ⟨g, 14, none⟩ (.int .i64 ((c : Int) + 1))).setCell ⟨g, 5 + c, none⟩ (.int .i64 (-1)))) := (Fr.put _ _).trans (Fr.put _ _)
  clear h s5 hcc hc
  have hmn : min ((c : Int) + 1) 9 = (c : Int) + 1 := by omega
  go_enter Tryz.func170, Tryz.ntmps170
  go_wp2
  have t1 : (w.setCell ⟨g, 14, none⟩ (.int .i64 ((c : Int) + 1))).drew.cell? ⟨g, 14, none⟩ = some (.int .i64 ((c : Int) + 1)) := s1
  have t2 : (w.setCell ⟨g, 14, none⟩ (.int .i64 ((c : Int) + 1))).drew.cell? ⟨g, 5 + c, none⟩ = some (.int .i64 u) := s2
  have t3 : (w.setCell ⟨g, 14, none⟩ (.int .i64 ((c : Int) + 1))).drew.frozen? ⟨g, 5 + c, none⟩ = false := s3
  have H6 : Hid (Pr ((w.setCell ⟨g, 14, none⟩ (.int .i64 ((c : Int) + 1))).drew.setCell ⟨g, 5 + c, none⟩ (.int .i64 (-1))) g ⟨p.st, p.n ++ [-1], p.h⟩) := H5.out
  have HF2 : Hid (Fr w.heap.size g w ((w.setCell ⟨g, 14, none⟩ (.int .i64 ((c : Int) + 1))).drew.setCell ⟨g, 5 + c, none⟩ (.int .i64 (-1)))) := ((Fr.put _ _).drewN 1).trans (Fr.put _ _)
  clear s1 s2 s3 s4 H5 HF
  refine rgC [(true, [0]), (true, [1]), (true, [2]), (true, [3]), (true, [6]), (true, [7]), (false, [4, 5, 8, 9])] ?_
  generalize (w.setCell ⟨g, 14, none⟩ (.int .i64 ((c : Int) + 1))).drew = w2 at *
  iterate 6 refine stC (h := ?_)
  refine alC fun K hK => ?_
  go_wp2
  refine hK.out _ _ ?_
  clear hK K
  refine chain_nil ?_
  exact bodyPost_end (v := .tuple #[]) (by simp [results, Tryz.results170]) rfl ⟨rfl, H6.out, HF2.out⟩
 ·rw [Nat.min_eq_right (by omega : 9 ≤ p.n.length)] at c1
  have c1' : w.cell? ⟨g, 14, none⟩ = some (.int .i64 9) := c1
  have S1 : ∃ u, (w.setCell ⟨g, 14, none⟩ (.int .i64 9)).cell? ⟨g, 14, none⟩ = some (.int .i64 9) ∧ (w.setCell ⟨g, 14, none⟩ (.int .i64 9)).cell? ⟨g, 13, none⟩ = some (.int .i64 u) ∧
    (w.setCell ⟨g, 14, none⟩ (.int .i64 9)).frozen? ⟨g, 13, none⟩ = false ∧ g < (w.setCell ⟨g, 14, none⟩ (.int .i64 9)).heap.size ∧
    Pr ((w.setCell ⟨g, 14, none⟩ (.int .i64 9)).setCell ⟨g, 13, none⟩ (.int .i64 (-1))) g ⟨p.st, p.n ++ [-1], p.h⟩ := by
   obtain ⟨l, ha, hs⟩ := h
   have h1 := hs.tail 9 (.int .i64 ((9 : Nat) : Int))
   rw [tail_setc ha.len] at h1
   refine ⟨l.getD 8 0, h1.cellR 9 _ (tail_cnt ha.len _ _), h1.cellR 8 _ (tail_num ha.len _ _ 8 (by omega)), h1.frozen _, h1.lt, ?_⟩
   refine ⟨l.set 8 (-1), ?_, ?_⟩
   ·have := ha.begin
    rw [Nat.min_eq_right (by omega : 8 ≤ p.n.length)] at this
    exact this
   ·have h2 := h1.tail 8 (.int .i64 (-1))
    rw [tail_setn ha.len _ _ 8 (by omega)] at h2
    show Strm _ (tailV _ (min (p.n ++ [-1]).length 9) _) _ _ _
    rw [Nat.min_eq_right (by rw [List.length_append]; omega)]
    exact h2
  obtain ⟨u, s1, s2, s3, s4, s5⟩ := S1
  have H5 := hide s5; clear h s5 hc c1
  have hmn : min (10 : Int) 9 = 9 := by decide
  go_enter Tryz.func170, Tryz.ntmps170
  go_wp2
  have t1 : (w.setCell ⟨g, 14, none⟩ (.int .i64 9)).drew.cell? ⟨g, 14, none⟩ = some (.int .i64 9) := s1
  have t2 : (w.setCell ⟨g, 14, none⟩ (.int .i64 9)).drew.cell? ⟨g, 13, none⟩ = some (.int .i64 u) := s2
  have t3 : (w.setCell ⟨g, 14, none⟩ (.int .i64 9)).drew.frozen? ⟨g, 13, none⟩ = false := s3
  have H6 : Hid (Pr ((w.setCell ⟨g, 14, none⟩ (.int .i64 9)).drew.setCell ⟨g, 13, none⟩ (.int .i64 (-1))) g ⟨p.st, p.n ++ [-1], p.h⟩) := H5.out
  have HF2 : Hid (Fr w.heap.size g w ((w.setCell ⟨g, 14, none⟩ (.int .i64 9)).drew.setCell ⟨g, 13, none⟩ (.int .i64 (-1)))) := ((Fr.put _ _).drewN 1).trans (Fr.put _ _)
  clear s1 s2 s3 s4 H5
  refine rgC [(true, [0]), (true, [1]), (true, [2]), (true, [3]), (true, [6]), (true, [7]), (false, [4, 5, 8, 9])] ?_
  generalize (w.setCell ⟨g, 14, none⟩ (.int .i64 9)).drew = w2 at *
  iterate 6 refine stC (h := ?_)
  refine alC fun K hK => ?_
  go_wp2
  refine hK.out _ _ ?_
  clear hK K
  refine chain_nil ?_
  exact bodyPost_end (v := .tuple #[]) (by simp [results, Tryz.results170]) rfl ⟨rfl, H6.out, HF2.out⟩
end
end
end Go.Proofs.YtkijclgbpbhglaaGreatDoor
