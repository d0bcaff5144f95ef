/-
  Contracts and plain mathematics of LMem, LLaws, LAlone, WBase, WOf, WRef, CMark, CWrong.
-/
import Derived.Test.YtcbdokocnjoilaaGreatDoorH1
import Derived.Test.YtcbdokocnjoilaaGreatDoorH2
import Derived.Laws.CopyOwn
import Derived.Laws.OwnMore
import Derived.OwnWalk
import Derived.Test.YtcbdokocnjoilaaGreatDoorRows
import Derived.Deep.MidRow
import Derived.Deep.WholeRow
import Derived.Lib.MinMax
namespace Go.Proofs.YtcbdokocnjoilaaGreatDoor
set_option maxRecDepth 100000
set_option linter.unusedVariables false
set_option maxHeartbeats 8000000
section
open Go.ChangeShapes Go.WideShapes Go.ChangeAt Go.RowKit
/-- A line's values, one behind the other. -/
def flatC (k : IntKind) (cs : List Cel) : List Value := cs.flatMap (cellL k)
theorem flatC_len (k : IntKind) (cs : List Cel) : (flatC k cs).length = cs.length * 7 := by
  induction cs with
  | nil => rfl
  | cons c cs ih => unfold flatC at ih ⊢; rw [List.flatMap_cons, List.length_append, ih, List.length_cons]; show 7 + _ = _; omega
theorem flatC_append (k : IntKind) (a b : List Cel) : flatC k (a ++ b) = flatC k a ++ flatC k b := by unfold flatC; simp
theorem flatC_get (k : IntKind) (cs : List Cel) : ∀ (i d : Nat), d < 7 → (flatC k cs)[i * 7 + d]? = (cs[i]?).bind (fun c => (cellL k c)[d]?) := by
  induction cs with
  | nil => intro i d _; simp [flatC]
  | cons c cs ih =>
    intro i d hd
    have hl : (cellL k c).length = 7 := rfl
    unfold flatC at ih ⊢
    rw [List.flatMap_cons]
    cases i with
    | zero => rw [List.getElem?_append_left (by omega)]; simp
    | succ i =>
      rw [List.getElem?_append_right (by omega), hl, show (i + 1) * 7 + d - 7 = i * 7 + d by omega, ih i d hd]
      simp
theorem flatC_one (k : IntKind) (cs : List Cel) : ∀ u ∈ flatC k cs, u.oneCell' = true := by
  intro u hu
  unfold flatC at hu
  obtain ⟨c, _, hc⟩ := List.mem_flatMap.1 hu
  simp only [cellL, List.mem_cons, List.not_mem_nil, or_false] at hc
  rcases hc with rfl | rfl | rfl | rfl | rfl | rfl | rfl <;> rfl
theorem flatC_take (k : IntKind) (cs : List Cel) (n : Nat) : flatC k (cs.take n) = (flatC k cs).take (n * 7) := by
  induction cs generalizing n with
  | nil => simp [flatC]
  | cons c cs ih =>
    cases n with
    | zero => simp [flatC]
    | succ n =>
      have hl : (cellL k c).length = 7 := rfl
      have e := ih n
      unfold flatC at e ⊢
      rw [List.take_succ_cons, List.flatMap_cons, List.flatMap_cons, e, List.take_append, hl, show (n + 1) * 7 - 7 = n * 7 by omega, List.take_of_length_le (by omega : (cellL k c).length ≤ (n + 1) * 7)]
theorem flatC_drop (k : IntKind) (cs : List Cel) (n : Nat) : flatC k (cs.drop n) = (flatC k cs).drop (n * 7) := by
  induction cs generalizing n with
  | nil => simp [flatC]
  | cons c cs ih =>
    cases n with
    | zero => simp [flatC]
    | succ n =>
      have hl : (cellL k c).length = 7 := rfl
      have e := ih n
      unfold flatC at e ⊢
      rw [List.drop_succ_cons, List.flatMap_cons, e, List.drop_append, hl, show (n + 1) * 7 - 7 = n * 7 by omega, List.drop_eq_nil_of_le (by omega : (cellL k c).length ≤ (n + 1) * 7)]
      rfl

/-- A slice of cells: it holds cs, wherever it lies; of an empty one nothing is asked. -/
def Cels (k : IntKind) (w : World) (a : Option Addr) (cs : List Cel) : Prop :=
  cs = [] ∨ ∃ b off, a = some ⟨b, off, none⟩ ∧ ∀ j v, (flatC k cs)[j]? = some v → w.cell? ⟨b, off + j, none⟩ = some v

section
variable {k : IntKind} {w w' : World} {a : Option Addr} {cs : List Cel}
theorem Cels.nil : Cels k w a [] := .inl rfl
theorem Cels.at (h : Cels k w a cs) {i : Nat} (hi : i < cs.length) :
    ∃ b off, a = some ⟨b, off, none⟩ ∧ b < w.heap.size ∧ ∀ d v, (cellL k (cAt cs i))[d]? = some v → w.cell? ⟨b, off + i * 7 + d, none⟩ = some v := by
  rcases h with h | ⟨b, off, ha, hc⟩
  · subst h; simp at hi
  · have key : ∀ d v, (cellL k (cAt cs i))[d]? = some v → w.cell? ⟨b, off + i * 7 + d, none⟩ = some v := by
      intro d v hv
      have hd : d < 7 := (List.getElem?_eq_some_iff.1 hv).1
      rw [Nat.add_assoc]
      refine hc _ v ?_
      rw [flatC_get k cs i d hd, get_cAt cs i hi]
      exact hv
    exact ⟨b, off, ha, block_lt_of_cell (key 0 _ rfl), key⟩
theorem Cels.keep (h : Cels k w a cs) (hk : ∀ p : Addr, p.block < w.heap.size → w'.cell? p = w.cell? p) : Cels k w' a cs := by
  rcases h with h | ⟨b, off, ha, hc⟩
  · exact .inl h
  · exact .inr ⟨b, off, ha, fun j v hj => (hk _ (block_lt_of_cell (hc j v hj))).trans (hc j v hj)⟩
theorem Cels.below (h : Cels k w a cs) (hb : Below w.heap.size w w') : Cels k w' a cs := h.keep fun _ hp => hb.cell hp
theorem Cels.alloc (h : Cels k w a cs) (o : Obj) : Cels k (w.alloc o) a cs := h.keep fun p hp => World.cell?_alloc_lt w o p hp
theorem Cels.drewN (h : Cels k w a cs) (n : Nat) : Cels k (w.drewN n) a cs := h
theorem Cels.drew (h : Cels k w a cs) : Cels k w.drew a cs := h
theorem Cels.take (h : Cels k w a cs) (n : Nat) : Cels k w a (cs.take n) := by
  rcases h with h | ⟨b, off, ha, hc⟩
  · exact .inl (by simp [h])
  · refine .inr ⟨b, off, ha, fun j v hj => ?_⟩
    rw [flatC_take, List.getElem?_take] at hj
    split at hj
    · exact hc j v hj
    · cases hj
theorem Whole.cels {g : Nat} {t : TypeId} (h : Whole w g t (flatC k cs)) : Cels k w (some ⟨g, 0, none⟩) cs := by
  refine .inr ⟨g, 0, rfl, fun j v hj => ?_⟩
  rw [Nat.zero_add, h.cell j, hj]
end
/-- What the loaded program's table says of a slice type S over cells of type e. -/
structure ElemC (P : Program) (S e : TypeId) (k : IntKind) (bytes : Nat) : Prop where
  under : P.underlying S = some (.slice e)
  info : (P.info? e).map (fun i => (i.zero, i.size, i.bytes)) = some (some (.agg (cellL k zeroC).toArray), 7, bytes)
theorem elemL : ElemC Tryz.prog 66 105 .i32 16 := ⟨Tryz.underlying66, by kernel_rfl⟩
theorem elemLC : ElemC Tryz.prog 71 100 .i64 32 := ⟨Tryz.underlying71, by kernel_rfl⟩

/-! ### laid over -/
/-- ds with xs laid over it from a place on. -/
def layC (ds : List Cel) (p : Nat) (xs : List Cel) : List Cel := ds.take p ++ (xs ++ ds.drop (p + xs.length))
theorem lay_len (ds : List Cel) (p : Nat) (xs : List Cel) (h : p + xs.length ≤ ds.length) : (layC ds p xs).length = ds.length := by unfold layC; simp; omega
theorem lay_tab (ds : List Cel) (p : Nat) (xs : List Cel) (h : p + xs.length ≤ ds.length) : layC ds p xs = tab ds.length (fun i => if p ≤ i ∧ i < p + xs.length then cAt xs (i - p) else cAt ds i) := by
  refine tab_is (lay_len ds p xs h) fun i hi => ?_
  unfold layC cAt
  rw [List.getD_eq_getElem?_getD]
  by_cases h1 : i < p
  · rw [if_neg (by omega), List.getElem?_append_left (by simp; omega), List.getElem?_take, if_pos h1, List.getD_eq_getElem?_getD]
  · have hl : (ds.take p).length = p := by simp; omega
    rw [List.getElem?_append_right (by omega), hl]
    by_cases h2 : i < p + xs.length
    · rw [if_pos (by omega), List.getElem?_append_left (by omega), List.getD_eq_getElem?_getD]
    · rw [if_neg (by omega), List.getElem?_append_right (by omega), List.getElem?_drop, List.getD_eq_getElem?_getD, show p + xs.length + (i - p - xs.length) = i by omega]
theorem flat_lay (k : IntKind) (ds : List Cel) (p : Nat) (xs : List Cel) : flatC k (layC ds p xs) = (flatC k ds).take (p * 7) ++ (flatC k xs ++ (flatC k ds).drop (p * 7 + (flatC k xs).length)) := by
  unfold layC
  rw [flatC_append, flatC_append, flatC_take, flatC_drop, flatC_len k xs, Nat.add_mul]
theorem set_lay (ds : List Cel) (p : Nat) (c : Cel) (h : p < ds.length) : ds.set p c = layC ds p [c] := by
  unfold layC
  rw [List.set_eq_take_append_cons_drop, if_pos h]
  rfl

/-- An operation whose value and world are known. -/
theorem wpList_run {P : Program} {ops : Array Oper} {rest : List Oper} {o : Oper} {a : Act} {w w' : World} {Q : Exit → Act → World → Prop} {v : Value} (hw : Region.wanted o (yielded ops a.tmps) = true)
    (hrun : (execOp a.eval o).run P w = .ok (.value v) w') (h : wpList P ops Q rest (a.put o.dst v) w') : wpList P ops Q (o :: rest) a w :=
  wpList_want hw fun K hK => by
    unfold Oper.wp
    rw [hrun]
    exact hK _ _ h

theorem stopw {p : Prop} (h : Hid p) : p := h
/-! ### make -/
theorem zeros_flat (k : IntKind) (n : Nat) : (madeCells (cellL k zeroC).toArray (n * 7)).toList = flatC k (List.replicate n zeroC) := by
  apply List.ext_getElem?
  intro j
  by_cases hj : j < n * 7
  · have e : j = j / 7 * 7 + j % 7 := by omega
    have hq : j / 7 < n := by omega
    have hd : j % 7 < 7 := by omega
    have h1 : (flatC k (List.replicate n zeroC))[j]? = (cellL k zeroC)[j % 7]? := by
      conv => lhs; rw [e]
      rw [flatC_get k _ _ _ hd, List.getElem?_replicate, if_pos hq]
      rfl
    rw [h1]
    simp only [madeCells, Array.toList_map, List.getElem?_map, Array.toList_range, List.getElem?_range hj, Option.map_some]
    have hs : (cellL k zeroC).toArray.size = 7 := rfl
    rw [hs]
    have : j % 7 < (cellL k zeroC).toArray.size := hd
    rw [getElem!_pos (cellL k zeroC).toArray (j % 7) this]
    have h2 : j % 7 < (cellL k zeroC).length := hd
    rw [List.getElem?_eq_getElem h2]
    rfl
  · rw [List.getElem?_eq_none (by rw [Array.length_toList, size_madeCells]; omega), List.getElem?_eq_none (by rw [flatC_len]; simp; omega)]
theorem whole_owned {w : World} {B : Nat} {e : TypeId} {g n : Nat} {xs : List Value} (h : w.ownsRow B e 7 (.slice (some ⟨g, 0, none⟩) n n) n xs) : Whole w g e xs := by
  rcases h.2 with ⟨h', _⟩ | ⟨g', cap', cur, h', hb, hg, hnc, hcm, hcs, htake⟩
  · cases h'
  · simp only [Value.slice.injEq, Option.some.injEq, Addr.mk.injEq, and_true, true_and] at h'
    obtain ⟨rfl, rfl⟩ := h'
    rw [List.take_of_length_le (Nat.le_of_eq (by rw [Array.length_toList, hcs]))] at htake
    subst htake
    exact hg
/-- 'make([]Cell, n)'. -/
theorem wpList_makeL {P : Program} {S e : TypeId} {k : IntKind} {bytes : Nat} (E : ElemC P S e k bytes) {ops : Array Oper} {rest : List Oper} {o : Oper} {a : Act} {w : World} {Q : Exit → Act → World → Prop} (hg : o.guard = none) (x y : Operand) (hop : o.op = .makeSlice S x y)
    (n : Nat) (hx : a.eval x = .int .i64 (n : Int)) (hy : a.eval y = .int .i64 (n : Int)) (hn : n ≤ 1000000) (hby : bytes ≤ 1000)
    (h : ∀ w', Whole w' w.heap.size e (flatC k (List.replicate n zeroC)) → Below w.heap.size w w' → wpList P ops Q rest (a.put o.dst (.slice (some ⟨w.heap.size, 0, none⟩) n n)) w') : wpList P ops Q (o :: rest) a w := by
  obtain ⟨i0, hi, hz0, hz1, hz2⟩ := info_parts E.info
  have hb : bytes * n ≤ 1000 * 1000000 := Nat.mul_le_mul hby hn
  refine wpList_make_full w hg x y S hop w.heap.size e i0 _ 7 E.under hi hz0 hz1 .i64 .i64 n n n hx hy rfl rfl (by rw [hz2]; omega) (by unfold maxLen; omega) (Nat.le_refl _) ?_
  intro w' ho hgr
  have hw := whole_owned ho
  rw [show (Value.agg (cellL k zeroC).toArray).cells = (cellL k zeroC).toArray from rfl, zeros_flat] at hw
  exact h w' hw ⟨hgr.os, hgr.tape, hgr.output, hgr.size, fun i hi => hgr.block i hi (by simp)⟩

/-! ### copy -/
theorem run_copy7 {P : Program} {S e : TypeId} {k : IntKind} {bytes : Nat} (E : ElemC P S e k bytes) (w : World) (S' ty : TypeId) (g o dLen dCap : Nat) (ad : Addr) (sLen sCap : Nat) (cur : Array Value) (t : TypeId) (cs : List Value)
    (hg : w.heap[g]? = some (.cells cur t (0, 0))) (hn : cs.length = Nat.min sLen dLen * 7)
    (hsrc : ∀ j v, cs[j]? = some v → w.cell? (ad.add j) = some v) (hfit : o + cs.length ≤ cur.size) (h1 : ∀ v ∈ cs, v.oneCell' = true) :
    (Builtin.copy_ #[S, S'] ty #[.slice (some ⟨g, o, none⟩) dLen dCap, .slice (some ad) sLen sCap]).run P w =
      .ok (goInt (Nat.min sLen dLen)) (w.setRow g (cur.toList.take o ++ cs ++ cur.toList.drop (o + cs.length)).toArray) := by
  have hl := run_loadCells_list (P := P) w ad cs hsrc
  have hst := run_storeCells_at P g o t cs 0 cur w hg (by simpa using hfit) h1
  obtain ⟨i, hq, _, hi, _⟩ := info_parts E.info
  simp [Builtin.copy_, run_underlying E.under, Builtin.lenOf, Builtin.firstCells, sizeOf, typeInfo, hq, hi, ← hn, hl, hst]
theorem run_copy7_none {P : Program} {S e : TypeId} {k : IntKind} {bytes : Nat} (E : ElemC P S e k bytes) (w : World) (S' ty : TypeId) (d a : Option Addr) (dLen dCap sLen sCap : Nat) (hn : Nat.min sLen dLen = 0) :
    (Builtin.copy_ #[S, S'] ty #[.slice d dLen dCap, .slice a sLen sCap]).run P w = .ok (goInt 0) w := by
  obtain ⟨i, hq, _, hi, _⟩ := info_parts E.info
  have hl : ∀ (x : Addr), (loadCells x 0).run P w = .ok #[] w := fun x => by simpa using run_loadCells_list (P := P) w x [] (by simp)
  cases d <;> cases a <;> simp [Builtin.copy_, run_underlying E.under, Builtin.lenOf, Builtin.firstCells, sizeOf, typeInfo, hq, hn, storeCells, hl]
/-- 'copy(row[p:], src)', the row known whole: the run. -/
theorem run_copyL {P : Program} {S e : TypeId} {k : IntKind} {bytes : Nat} (E : ElemC P S e k bytes) (w : World) (ty : TypeId) (g p : Nat) (t : TypeId) (ds xs : List Cel) (A : Option Addr) (dLen dCap sLen sCap : Nat)
    (hw : Whole w g t (flatC k ds)) (hA : Cels k w A xs) (hx : xs.length = sLen) (hfit : p + dLen ≤ ds.length) :
    ∃ w', (Builtin.copy_ #[S, S] ty #[.slice (some ⟨g, p * 7, none⟩) dLen dCap, .slice A sLen sCap]).run P w = .ok (goInt (Nat.min sLen dLen)) w' ∧ Whole w' g t (flatC k (layC ds p (xs.take dLen))) ∧ Only g w w' := by
  subst hx
  rcases hA with rfl | ⟨b, off, rfl, hc⟩
  · exact ⟨w, by simpa using run_copy7_none E w S ty (some ⟨g, p * 7, none⟩) A dLen dCap 0 sCap (by simp), by simpa [layC] using hw, Only.refl⟩
  · have hadd : ∀ j, (⟨b, off, none⟩ : Addr).add j = ⟨b, off + j, none⟩ := fun j => by unfold Addr.add; split <;> simp_all
    have hlen : (flatC k (xs.take dLen)).length = Nat.min xs.length dLen * 7 := by rw [flatC_len, List.length_take]; congr 1; exact Nat.min_comm _ _
    have hrun := run_copy7 E w S ty g (p * 7) dLen dCap ⟨b, off, none⟩ xs.length sCap (flatC k ds).toArray t (flatC k (xs.take dLen)) hw hlen
      (fun j v hj => by rw [hadd]; rw [flatC_take, List.getElem?_take] at hj; split at hj; exact hc j v hj; cases hj)
      (by rw [hlen, List.size_toArray, flatC_len, ← Nat.add_mul]; refine Nat.mul_le_mul_right _ ?_; have : Nat.min xs.length dLen ≤ dLen := Nat.min_le_right _ _; omega) (flatC_one k _)
    refine ⟨_, hrun, ?_, ⟨rfl, rfl, rfl, by simp [World.setRow], fun i _ hne => setRow_other w g i _ (by intro q; exact hne (by simp [q]))⟩⟩
    unfold Whole
    rw [flat_lay]
    simpa using setRow_heap w g _ _ t _ hw

/-! ### append -/
/-- A row of cells of the call's own (blocks from B on), all that lay below B being as it was. -/
structure OwnC (e : TypeId) (k : IntKind) (B : Nat) (w wr : World) (v : Value) (cs : List Cel) : Prop where
  own : wr.ownsRow B e 7 v cs.length (flatC k cs)
  bel : Below B w wr
  le : B ≤ wr.heap.size
section
variable {e : TypeId} {k : IntKind} {B : Nat} {w wr : World} {v : Value} {cs : List Cel}
theorem OwnC.start (hB : B ≤ w.heap.size) : OwnC e k B w w (.slice none 0 0) [] := ⟨World.ownsRow_nil _ _ _ _, Below.refl _ _, hB⟩
theorem OwnC.from0 (hB : B ≤ wr.heap.size) (hb : Below B w wr) : OwnC e k B w wr (.slice none 0 0) [] := ⟨World.ownsRow_nil _ _ _ _, hb, hB⟩
theorem OwnC.empty (w : World) (e : TypeId) (k : IntKind) : OwnC e k w.heap.size w (w.alloc (.cells #[] e)) (.slice (some ⟨w.heap.size, 0, none⟩) 0 0) [] :=
  ⟨⟨by simp [flatC], .inr ⟨w.heap.size, 0, #[], rfl, Nat.le_refl _, heap_alloc_new w _, Nat.le_refl _, Nat.zero_le _, rfl, rfl⟩⟩, (Below.refl _ _).alloc (Nat.le_refl _) _, by simp⟩
theorem OwnC.form (h : OwnC e k B w wr v cs) : ∃ A cap, v = .slice A cs.length cap ∧ Cels k wr A cs ∧ cs.length ≤ cap ∧ (A = none → cap = 0) ∧ cap ≤ maxLen := by
  rcases h.own.2 with ⟨rfl, h0⟩ | ⟨g, cap, cur, rfl, _, _, hc, hm, _, _⟩
  · have : cs = [] := List.eq_nil_of_length_eq_zero h0
    subst this
    exact ⟨none, 0, rfl, .nil, Nat.le_refl _, fun _ => rfl, Nat.zero_le _⟩
  · refine ⟨_, cap, rfl, .inr ⟨g, 0, rfl, fun i v hi => ?_⟩, hc, (fun h => by cases h), hm⟩
    have := h.own.cells (g := g) rfl i v hi
    rwa [show (⟨g, 0, none⟩ : Addr).add i = ⟨g, 0 + i, none⟩ by unfold Addr.add; split <;> simp_all] at this
theorem OwnC.later {w1 : World} (h : OwnC e k B w wr v cs) (hb : Below wr.heap.size wr w1) : OwnC e k B w w1 v cs := by
  refine ⟨⟨h.own.1, ?_⟩, h.bel.trans (hb.mono h.le), Nat.le_trans h.le hb.size⟩
  rcases h.own.2 with h0 | ⟨g, cap, cur, hv, hB, hh, h1⟩
  · exact .inl h0
  · refine .inr ⟨g, cap, cur, hv, hB, ?_, h1⟩
    rw [hb.block g (Array.getElem?_eq_some_iff.1 hh).1, hh]
theorem OwnC.alloc (h : OwnC e k B w wr v cs) (o : Obj) : OwnC e k B w (wr.alloc o) v cs := h.later ((Below.refl _ _).alloc (Nat.le_refl _) _)
theorem OwnC.grown {w1 : World} {v' : Value} {ns : List Cel} (h : OwnC e k B w wr v cs) (h1 : w1.ownsRow B e 7 v' (cs.length + ns.length) (flatC k cs ++ flatC k ns))
    (hg : wr.grownBy w1 v.ownBlock) : OwnC e k B w w1 v' (cs ++ ns) :=
  ⟨by simpa [flatC_append] using h1, h.bel.grown hg h.le (own_ge h.own), Nat.le_trans h.le hg.size⟩
end
theorem cells_new7 (w : World) (l : List Value) (t : TypeId) : ∀ j u, l[j]? = some u → (w.alloc (.cells l.toArray t)).cell? ((⟨w.heap.size, 0, none⟩ : Addr).add j) = some u := by
  intro j u hj
  rw [show (⟨w.heap.size, 0, none⟩ : Addr).add j = ⟨w.heap.size, j, none⟩ by unfold Addr.add; split <;> simp_all, (Whole.new w t l).cell j, hj]
/-- 'append(row, c)', c in a block of its own. -/
theorem wpList_pushC {P : Program} {S e : TypeId} {k : IntKind} {bytes : Nat} (E : ElemC P S e k bytes) {ops : Array Oper} {rest : List Oper} {o : Oper} {a : Act} {Q : Exit → Act → World → Prop} {B : Nat} {w wr : World} {v : Value} {cs : List Cel} (c : Cel)
    (hgd : Region.wanted o (yielded ops a.tmps) = true) (s y : Operand) (ho : o.op = .call { callee := .builtin .append, args := #[s, y], argTypes := #[S, S] })
    (hs : a.eval s = v) (hy : a.eval y = .slice (some ⟨wr.heap.size, 0, none⟩) 1 1) (hown : OwnC e k B w wr v cs) (hlen : cs.length ≤ 1000000) (hby : bytes ≤ 1000)
    (h : ∀ v' w1, OwnC e k B w w1 v' (cs ++ [c]) → wpList P ops Q rest (a.put o.dst v') w1) : wpList P ops Q (o :: rest) a (wr.alloc (.cells #[.int k c.r, .int k c.m, .int k c.n, .int .u8 (c.w : Int), .int .u8 (c.p.f : Int), .int .u8 (c.p.g : Int), .int .u8 (c.p.b : Int)] e)) := by
  obtain ⟨i0, hi, hz0, hz1, hz2⟩ := info_parts E.info
  have hb : (cs.length + 1) * bytes ≤ 1000001 * 1000 := Nat.mul_le_mul (by omega) hby
  refine wpList_want hgd fun K hK => ?_
  refine wp_append_own _ s y S ho B e i0 _ 7 bytes E.under hi hz0 hz1 hz2 rfl (by decide) v cs.length _ hs (hown.alloc _).own ⟨wr.heap.size, 0, none⟩ 1 1 (cellL k c) hy rfl (cells_new7 _ (cellL k c) e) (by have := flatC_one k [c]; simpa [flatC] using this)
    (by unfold maxLen; omega) (by omega) (by have := hown.le; simp; omega) ?_
  intro v' w1 h1 hg _
  exact hK _ _ (h v' w1 ((hown.alloc _).grown (ns := [c]) (by simpa [flatC] using h1) hg))
/-- 'append(row, src...)', src whatever. -/
theorem wpList_catC {P : Program} {S e : TypeId} {k : IntKind} {bytes : Nat} (E : ElemC P S e k bytes) {ops : Array Oper} {rest : List Oper} {o : Oper} {a : Act} {Q : Exit → Act → World → Prop} {B : Nat} {w wr : World} {v : Value} {cs ns : List Cel} {A : Option Addr} {n c : Nat}
    (hgd : Region.wanted o (yielded ops a.tmps) = true) (s y : Operand) (ho : o.op = .call { callee := .builtin .append, args := #[s, y], argTypes := #[S, S] })
    (hs : a.eval s = v) (hy : a.eval y = .slice A n c) (hown : OwnC e k B w wr v cs) (hns : Cels k wr A ns) (hn : ns.length = n) (hc : A = none → c = 0) (hlen : cs.length + n ≤ 1000000) (hby : bytes ≤ 1000)
    (h : ∀ v' w1, OwnC e k B w w1 v' (cs ++ ns) → wpList P ops Q rest (a.put o.dst v') w1) : wpList P ops Q (o :: rest) a wr := by
  subst hn
  obtain ⟨i0, hi, hz0, hz1, hz2⟩ := info_parts E.info
  have hb : (cs.length + ns.length) * bytes ≤ 1000000 * 1000 := Nat.mul_le_mul hlen hby
  refine wpList_want hgd fun K hK => ?_
  cases A with
  | none =>
    have hn : ns = [] := by
      rcases hns with h | ⟨_, _, h, _⟩
      · exact h
      · cases h
    subst hn
    obtain rfl : c = 0 := hc rfl
    have hrun := run_append_owned_none (P := P) (w := wr) B S o.type e i0 7 E.under hi v cs.length _ hown.own
    unfold Oper.wp
    simp [execOp, ho, resolve, invoke, builtin, hs, hy, hrun, Result.andThen]
    exact hK _ _ (h v wr (by simpa using hown))
  | some ad =>
    refine wp_append_own _ s y S ho B e i0 _ 7 bytes E.under hi hz0 hz1 hz2 rfl (by decide) v cs.length _ hs hown.own ad ns.length c (flatC k ns) hy (flatC_len k ns) ?_ (flatC_one k ns)
      (by unfold maxLen; omega) (by omega) hown.le ?_
    · intro j u hu
      rcases hns with rfl | ⟨b, off, e1, hcell⟩
      · simp [flatC] at hu
      · cases e1
        rw [show (⟨b, off, none⟩ : Addr).add j = ⟨b, off + j, none⟩ by unfold Addr.add; split <;> simp_all]
        exact hcell j u hu
    · intro v' w1 h1 hg _
      exact hK _ _ (h v' w1 (hown.grown h1 hg))
/-- The width at a place, as it lies. -/
theorem Cels.wide {q : IntKind} {w : World} {b off : Nat} {cs : List Cel} (h : Cels q w (some ⟨b, off, none⟩) cs) (k : Nat) (hk : k < cs.length) : w.cell? ⟨b, off + k * 7 + 3, none⟩ = some (.int .u8 (wAt cs k : Int)) := by
  obtain ⟨b', off', e, _, hc⟩ := h.at hk
  cases e
  rw [wAt_in cs k hk]
  exact hc 3 _ rfl
theorem info21 : (Tryz.prog.info? 21).map (fun i => (i.zero, i.size, i.bytes)) = some (some (.int .i32 0), 1, 4) := by kernel_rfl
theorem info3 : (Tryz.prog.info? 3).map (fun i => (i.zero, i.size, i.bytes)) = some (some (.int .i64 0), 1, 8) := by kernel_rfl
theorem info151 : (Tryz.prog.info? 151).map (·.size) = some 54 := by kernel_rfl
theorem elem140 : Elem Tryz.prog 140 21 .i32 4 := ⟨Tryz.underlying140, info21⟩
theorem elem76 : Elem Tryz.prog 76 3 .i64 8 := ⟨Tryz.underlying76, info3⟩

/-- The program's table: from, to, width. -/
def spans : List (Int × Int × Int) := [(0, 31, -1), (127, 159, -1), (768, 879, 0), (8203, 8207, 0), (8400, 8447, 0), (65024, 65039, 0), (65056, 65071, 0), (4352, 4447, 2), (11904, 12350, 2), (12353, 42191, 2), (44032, 55203, 2),
  (63744, 64255, 2), (65072, 65135, 2), (65280, 65376, 2), (65504, 65510, 2), (127744, 128591, 2), (129280, 129535, 2), (131072, 262141, 2)]
def look (r : Int) : List (Int × Int × Int) → Int
  | [] => 1
  | s :: l => if s.1 ≤ r ∧ r ≤ s.2.1 then s.2.2 else look r l
theorem look_drop (r : Int) (k : Nat) (h : k < 18) (f t w : Int) (e : spans[k]? = some (f, t, w)) : look r (spans.drop k) = if f ≤ r ∧ r ≤ t then w else look r (spans.drop (k + 1)) := by
  obtain ⟨hk, e⟩ := List.getElem?_eq_some_iff.1 e
  rw [List.drop_eq_getElem_cons hk, e]; rfl
theorem inB_marks (r : Int) : (inB r marks = true) ↔ ((768 ≤ r ∧ r ≤ 879) ∨ (8203 ≤ r ∧ r ≤ 8207) ∨ (8400 ≤ r ∧ r ≤ 8447) ∨ (65024 ≤ r ∧ r ≤ 65039) ∨ (65056 ≤ r ∧ r ≤ 65071)) := by
  simp only [inB, marks, Bool.or_eq_true, Bool.and_eq_true, decide_eq_true_iff, Bool.false_eq_true, or_false]
theorem inB_wides (r : Int) : (inB r wides = true) ↔ ((4352 ≤ r ∧ r ≤ 4447) ∨ (11904 ≤ r ∧ r ≤ 12350) ∨ (12353 ≤ r ∧ r ≤ 42191) ∨ (44032 ≤ r ∧ r ≤ 55203) ∨ (63744 ≤ r ∧ r ≤ 64255) ∨ (65072 ≤ r ∧ r ≤ 65135) ∨ (65280 ≤ r ∧ r ≤ 65376) ∨ (65504 ≤ r ∧ r ≤ 65510) ∨ (127744 ≤ r ∧ r ≤ 128591) ∨ (129280 ≤ r ∧ r ≤ 129535) ∨ (131072 ≤ r ∧ r ≤ 262141)) := by
  simp only [inB, wides, Bool.or_eq_true, Bool.and_eq_true, decide_eq_true_iff, Bool.false_eq_true, or_false]
theorem inB_ctl (r : Int) : (inB r [127, 159] = true) ↔ (127 ≤ r ∧ r ≤ 159) := by
  simp only [inB, Bool.or_eq_true, Bool.and_eq_true, decide_eq_true_iff, Bool.false_eq_true, or_false]
theorem wOf_no (r : Int) (h : r < 32 ∨ (127 ≤ r ∧ r ≤ 159)) : wOf r = -1 := by
  unfold wOf
  rw [if_pos]
  rcases h with h | h
  · exact .inl h
  · exact .inr (.inl ((inB_ctl r).2 h))
theorem not_no (r : Int) (h : isSc r = true) (h1 : 32 ≤ r) (h2 : ¬ (127 ≤ r ∧ r ≤ 159)) : ¬ (r < 32 ∨ inB r [127, 159] = true ∨ isSc r = false) := by
  rintro (q | q | q)
  · omega
  · exact h2 ((inB_ctl r).1 q)
  · rw [h] at q; cases q
theorem wOf_mark (r : Int) (h : isSc r = true) (h1 : 32 ≤ r) (h2 : ¬ (127 ≤ r ∧ r ≤ 159)) (h3 : (768 ≤ r ∧ r ≤ 879) ∨ (8203 ≤ r ∧ r ≤ 8207) ∨ (8400 ≤ r ∧ r ≤ 8447) ∨ (65024 ≤ r ∧ r ≤ 65039) ∨ (65056 ≤ r ∧ r ≤ 65071)) : wOf r = 0 := by
  unfold wOf
  rw [if_neg (not_no r h h1 h2), if_pos ((inB_marks r).2 h3)]
theorem wOf_wide (r : Int) (h : isSc r = true) (h1 : 32 ≤ r) (h2 : ¬ (127 ≤ r ∧ r ≤ 159)) (h3 : ¬ ((768 ≤ r ∧ r ≤ 879) ∨ (8203 ≤ r ∧ r ≤ 8207) ∨ (8400 ≤ r ∧ r ≤ 8447) ∨ (65024 ≤ r ∧ r ≤ 65039) ∨ (65056 ≤ r ∧ r ≤ 65071))) (h4 : (4352 ≤ r ∧ r ≤ 4447) ∨ (11904 ≤ r ∧ r ≤ 12350) ∨ (12353 ≤ r ∧ r ≤ 42191) ∨ (44032 ≤ r ∧ r ≤ 55203) ∨ (63744 ≤ r ∧ r ≤ 64255) ∨ (65072 ≤ r ∧ r ≤ 65135) ∨ (65280 ≤ r ∧ r ≤ 65376) ∨ (65504 ≤ r ∧ r ≤ 65510) ∨ (127744 ≤ r ∧ r ≤ 128591) ∨ (129280 ≤ r ∧ r ≤ 129535) ∨ (131072 ≤ r ∧ r ≤ 262141)) : wOf r = 2 := by
  unfold wOf
  rw [if_neg (not_no r h h1 h2), if_neg (mt (inB_marks r).1 h3), if_pos ((inB_wides r).2 h4)]
theorem wOf_one (r : Int) (h : isSc r = true) (h1 : 32 ≤ r) (h2 : ¬ (127 ≤ r ∧ r ≤ 159)) (h3 : ¬ ((768 ≤ r ∧ r ≤ 879) ∨ (8203 ≤ r ∧ r ≤ 8207) ∨ (8400 ≤ r ∧ r ≤ 8447) ∨ (65024 ≤ r ∧ r ≤ 65039) ∨ (65056 ≤ r ∧ r ≤ 65071))) (h4 : ¬ ((4352 ≤ r ∧ r ≤ 4447) ∨ (11904 ≤ r ∧ r ≤ 12350) ∨ (12353 ≤ r ∧ r ≤ 42191) ∨ (44032 ≤ r ∧ r ≤ 55203) ∨ (63744 ≤ r ∧ r ≤ 64255) ∨ (65072 ≤ r ∧ r ≤ 65135) ∨ (65280 ≤ r ∧ r ≤ 65376) ∨ (65504 ≤ r ∧ r ≤ 65510) ∨ (127744 ≤ r ∧ r ≤ 128591) ∨ (129280 ≤ r ∧ r ≤ 129535) ∨ (131072 ≤ r ∧ r ≤ 262141))) : wOf r = 1 := by
  unfold wOf
  rw [if_neg (not_no r h h1 h2), if_neg (mt (inB_marks r).1 h3), if_neg (mt (inB_wides r).1 h4)]
theorem look_in (r f t w : Int) (l : List (Int × Int × Int)) (h : f ≤ r ∧ r ≤ t) : look r ((f, t, w) :: l) = w := if_pos h
theorem look_out (r f t w : Int) (l : List (Int × Int × Int)) (h : ¬ (f ≤ r ∧ r ≤ t)) : look r ((f, t, w) :: l) = look r l := if_neg h
theorem look_wOf (r : Int) (h : isSc r = true) : look r spans = wOf r := by
  have hs : 0 ≤ r ∧ r ≤ 1114111 ∧ (r < 55296 ∨ 57343 < r) := by simpa [isSc] using h
  unfold spans
  by_cases c0 : 0 ≤ r ∧ r ≤ 31
  · rw [look_in r _ _ _ _ c0]; exact (wOf_no r (by omega)).symm
  rw [look_out r _ _ _ _ c0]
  by_cases c1 : 127 ≤ r ∧ r ≤ 159
  · rw [look_in r _ _ _ _ c1]; exact (wOf_no r (by omega)).symm
  rw [look_out r _ _ _ _ c1]
  by_cases c2 : 768 ≤ r ∧ r ≤ 879
  · rw [look_in r _ _ _ _ c2]; exact (wOf_mark r h (by omega) (by omega) (by omega)).symm
  rw [look_out r _ _ _ _ c2]
  by_cases c3 : 8203 ≤ r ∧ r ≤ 8207
  · rw [look_in r _ _ _ _ c3]; exact (wOf_mark r h (by omega) (by omega) (by omega)).symm
  rw [look_out r _ _ _ _ c3]
  by_cases c4 : 8400 ≤ r ∧ r ≤ 8447
  · rw [look_in r _ _ _ _ c4]; exact (wOf_mark r h (by omega) (by omega) (by omega)).symm
  rw [look_out r _ _ _ _ c4]
  by_cases c5 : 65024 ≤ r ∧ r ≤ 65039
  · rw [look_in r _ _ _ _ c5]; exact (wOf_mark r h (by omega) (by omega) (by omega)).symm
  rw [look_out r _ _ _ _ c5]
  by_cases c6 : 65056 ≤ r ∧ r ≤ 65071
  · rw [look_in r _ _ _ _ c6]; exact (wOf_mark r h (by omega) (by omega) (by omega)).symm
  rw [look_out r _ _ _ _ c6]
  by_cases c7 : 4352 ≤ r ∧ r ≤ 4447
  · rw [look_in r _ _ _ _ c7]; exact (wOf_wide r h (by omega) (by omega) (by omega) (by omega)).symm
  rw [look_out r _ _ _ _ c7]
  by_cases c8 : 11904 ≤ r ∧ r ≤ 12350
  · rw [look_in r _ _ _ _ c8]; exact (wOf_wide r h (by omega) (by omega) (by omega) (by omega)).symm
  rw [look_out r _ _ _ _ c8]
  by_cases c9 : 12353 ≤ r ∧ r ≤ 42191
  · rw [look_in r _ _ _ _ c9]; exact (wOf_wide r h (by omega) (by omega) (by omega) (by omega)).symm
  rw [look_out r _ _ _ _ c9]
  by_cases c10 : 44032 ≤ r ∧ r ≤ 55203
  · rw [look_in r _ _ _ _ c10]; exact (wOf_wide r h (by omega) (by omega) (by omega) (by omega)).symm
  rw [look_out r _ _ _ _ c10]
  by_cases c11 : 63744 ≤ r ∧ r ≤ 64255
  · rw [look_in r _ _ _ _ c11]; exact (wOf_wide r h (by omega) (by omega) (by omega) (by omega)).symm
  rw [look_out r _ _ _ _ c11]
  by_cases c12 : 65072 ≤ r ∧ r ≤ 65135
  · rw [look_in r _ _ _ _ c12]; exact (wOf_wide r h (by omega) (by omega) (by omega) (by omega)).symm
  rw [look_out r _ _ _ _ c12]
  by_cases c13 : 65280 ≤ r ∧ r ≤ 65376
  · rw [look_in r _ _ _ _ c13]; exact (wOf_wide r h (by omega) (by omega) (by omega) (by omega)).symm
  rw [look_out r _ _ _ _ c13]
  by_cases c14 : 65504 ≤ r ∧ r ≤ 65510
  · rw [look_in r _ _ _ _ c14]; exact (wOf_wide r h (by omega) (by omega) (by omega) (by omega)).symm
  rw [look_out r _ _ _ _ c14]
  by_cases c15 : 127744 ≤ r ∧ r ≤ 128591
  · rw [look_in r _ _ _ _ c15]; exact (wOf_wide r h (by omega) (by omega) (by omega) (by omega)).symm
  rw [look_out r _ _ _ _ c15]
  by_cases c16 : 129280 ≤ r ∧ r ≤ 129535
  · rw [look_in r _ _ _ _ c16]; exact (wOf_wide r h (by omega) (by omega) (by omega) (by omega)).symm
  rw [look_out r _ _ _ _ c16]
  by_cases c17 : 131072 ≤ r ∧ r ≤ 262141
  · rw [look_in r _ _ _ _ c17]; exact (wOf_wide r h (by omega) (by omega) (by omega) (by omega)).symm
  rw [look_out r _ _ _ _ c17]
  exact (wOf_one r h (by omega) (by omega) (by omega) (by omega)).symm

/-- A span as cells. -/
def cellsOf3 (s : Int × Int × Int) : List Value := [.int .i32 s.1, .int .i32 s.2.1, .int .i64 s.2.2]
def spanCells : List Value := spans.flatMap cellsOf3
theorem spanCells_len : spanCells.length = 54 := by decide +kernel
/-- The program's table lies where it lies. -/
def Spans (w : World) : Prop := w.rangeAt 0 0 spanCells
theorem Spans.size {w : World} (h : Spans w) : 0 < w.heap.size := block_lt_of_cell (h 0 (.int .i32 0) rfl)
theorem Spans.keep {w w' : World} (h : Spans w) (hk : ∀ p : Addr, p.block < w.heap.size → w'.cell? p = w.cell? p) : Spans w' := fun j v hv => (hk _ (block_lt_of_cell (h j v hv))).trans (h j v hv)
theorem Spans.below {w w' : World} (h : Spans w) (hb : Below w.heap.size w w') : Spans w' := h.keep fun _ hp => hb.cell hp
theorem Spans.alloc {w : World} (h : Spans w) (o : Obj) : Spans (w.alloc o) := h.keep fun p hp => World.cell?_alloc_lt w o p hp
theorem Spans.drewN {w : World} (h : Spans w) (n : Nat) : Spans (w.drewN n) := h
theorem Spans.drew {w : World} (h : Spans w) : Spans w.drew := h

def tabArr : Array Value := spanCells.toArray
theorem tab_index (w : World) (k : Nat) (hk : k < 18) : ∃ f t d : Int, spans[k]? = some (f, t, d) ∧ (Instr.index 151 (.agg tabArr) (.int .i64 (k : Int))).run Tryz.prog w = .ok (.agg #[.int .i32 f, .int .i32 t, .int .i64 d]) w := by
  have : k = 0 ∨ k = 1 ∨ k = 2 ∨ k = 3 ∨ k = 4 ∨ k = 5 ∨ k = 6 ∨ k = 7 ∨ k = 8 ∨ k = 9 ∨ k = 10 ∨ k = 11 ∨ k = 12 ∨ k = 13 ∨ k = 14 ∨ k = 15 ∨ k = 16 ∨ k = 17 := by omega
  rcases this with rfl | rfl | rfl | rfl | rfl | rfl | rfl | rfl | rfl | rfl | rfl | rfl | rfl | rfl | rfl | rfl | rfl | rfl
  all_goals exact ⟨_, _, _, rfl, by kernel_rfl⟩

theorem rscalar_any (r : Int) (w : World) : Calls Tryz.prog 91 #[.int .i64 r] w fun e w' => e = .returned (.bool (isSc r)) ∧ w = w' := by
  have key : (r < 0 ∧ isSc r = false) ∨ (0 ≤ r ∧ 1114111 < r ∧ isSc r = false) ∨ (0 ≤ r ∧ r ≤ 1114111 ∧ r < 55296 ∧ isSc r = true) ∨ (0 ≤ r ∧ r ≤ 1114111 ∧ 55296 ≤ r ∧ r ≤ 57343 ∧ isSc r = false) ∨ (0 ≤ r ∧ r ≤ 1114111 ∧ 55296 ≤ r ∧ 57343 < r ∧ isSc r = true) := by
    unfold isSc; simp only [decide_eq_true_iff, decide_eq_false_iff_not]; omega
  rcases key with ⟨h1, h⟩ | ⟨h1, h2, h⟩ | ⟨h1, h2, h3, h⟩ | ⟨h1, h2, h3, h4, h⟩ | ⟨h1, h2, h3, h4, h⟩
  all_goals
    have H := hide h
    clear h
    go_enter Tryz.func91, Tryz.ntmps91
    go_wp2
    go_ret
    exact ⟨ret_bool (by first | exact H.out.symm | (rw [H.out]; simp; omega)), rfl⟩

theorem scalar_any (r : Int) (w : World) : Calls Tryz.prog 92 #[.int .i32 r] w fun e w' => e = .returned (.bool (isSc r)) ∧ w = w' := by
  have key : (r < 0 ∧ r < 55296 ∧ isSc r = false) ∨ (0 ≤ r ∧ 1114111 < r ∧ 55296 ≤ r ∧ 57343 < r ∧ isSc r = false) ∨ (0 ≤ r ∧ r ≤ 1114111 ∧ r < 55296 ∧ isSc r = true) ∨ (0 ≤ r ∧ r ≤ 1114111 ∧ 55296 ≤ r ∧ r ≤ 57343 ∧ isSc r = false) ∨ (0 ≤ r ∧ r ≤ 1114111 ∧ 55296 ≤ r ∧ 57343 < r ∧ isSc r = true) := by
    unfold isSc; simp only [decide_eq_true_iff, decide_eq_false_iff_not]; omega
  rcases key with ⟨h1, h2, h⟩ | ⟨h1, h2, h3, h4, h⟩ | ⟨h1, h2, h3, h⟩ | ⟨h1, h2, h3, h4, h⟩ | ⟨h1, h2, h3, h4, h⟩
  all_goals
    have H := hide h
    clear h
    go_enter Tryz.func92, Tryz.ntmps92
    go_wp2
    go_ret
    exact ⟨ret_bool (by first | exact H.out.symm | (rw [H.out]; simp; omega)), rfl⟩
theorem tab_at (k : Nat) (hk : k < 18) : ∃ f t d : Int, spans[k]? = some (f, t, d) ∧ ∀ w, (Instr.index 151 (.agg spanCells.toArray) (.int .i64 (k : Int))).run Tryz.prog w = .ok (.agg #[.int .i32 f, .int .i32 t, .int .i64 d]) w := by
  have e : k < spans.length := hk
  refine ⟨spans[k].1, spans[k].2.1, spans[k].2.2, List.getElem?_eq_getElem e, fun w => ?_⟩
  obtain ⟨f, t, d, h1, h2⟩ := tab_index w k hk
  rw [List.getElem?_eq_getElem e] at h1
  rw [Option.some.inj h1]
  exact h2
theorem wOf_nsc (r : Int) (h : isSc r = false) : wOf r = -1 := by
  unfold wOf; rw [if_pos]; exact .inr (.inr h)

theorem exec_tab (w : World) (hS : Spans w) (ρ : Operand → Value) (o : Oper) (ho : o.op = .load 151 (.global 0)) (hρ : ρ (.global 0) = .pointer (some ⟨0, 0, none⟩)) :
    (execOp ρ o).run Tryz.prog w = .ok (.value (.agg spanCells.toArray)) w := by
  unfold execOp
  simp only [ho, hρ, Instr.loadAt, Instr.sureAddr, Sem.run_bind, Sem.run_pure, Result.andThen_ok, run_loadVar_mid w 0 0 151 spanCells _ hS Tryz.underlying151 rfl (by rw [spanCells_len]; exact info151)]

theorem of_any (r : Int) (w : World) (hS : Spans w) : Calls Tryz.prog 77 #[.int .i32 r] w (Num .i64 (wOf r) w) := by
  by_cases hsc : isSc r = true
  · have HL := hide (look_wOf r hsc)
    go_enter Tryz.func77, Tryz.ntmps77
    go_wp2_with (first | (go_at_call 92; refine (scalar_any _ _).mono ?_; rintro e w' ⟨rfl, rfl⟩) | (with_reducible refine wpList_val (o := ⟨some 8, _, _, _, _, _⟩) rfl (v := .agg spanCells.toArray) ?_ ?_))
    · exact exec_tab w hS _ _ rfl rfl
    go_wp2
    clear hsc
    go_loopw [4, 9] (fun s i wr => ∃ k : Nat, k ≤ 18 ∧ i = .int .i64 k ∧ look r (spans.drop k) = wOf r ∧ Below w.heap.size w wr) (fun _ i _ => 18 - (intOf i).toNat)
    case atStart => exact ⟨0, Nat.zero_le _, rfl, HL.out, Below.refl _ _⟩
    case round =>
      obtain ⟨k, hk, rfl, hl, hbel⟩ := hrel
      have HK := hide hl
      clear hl
      by_cases hlt : k < 18
      · obtain ⟨f, t, d, he, hrun⟩ := tab_at k hlt
        have HD := hide (look_drop r k hlt f t d he)
        clear he
        by_cases c1 : f ≤ r
        · by_cases c2 : r ≤ t
          · have e : d = wOf r := by rw [← HK.out, HD.out, if_pos ⟨c1, c2⟩]
            have E := hide e
            clear e
            go_wp2
            go_ret
            exact ⟨ret_int E.out, hbel.alloc hbel.size _⟩
          · have HN : Hid (look r (spans.drop (k + 1)) = wOf r) := by unfold Hid; rw [← HK.out, HD.out, if_neg (fun h => c2 h.2)]
            go_wp2
            go_roundw
            case rel => exact ⟨k + 1, by omega, by go_num, HN.out, hbel.alloc hbel.size _⟩
            case measure => simp [intOf]; omega
        · have HN : Hid (look r (spans.drop (k + 1)) = wOf r) := by unfold Hid; rw [← HK.out, HD.out, if_neg (fun h => c1 h.1)]
          go_wp2
          go_roundw
          case rel => exact ⟨k + 1, by omega, by go_num, HN.out, hbel.alloc hbel.size _⟩
          case measure => simp [intOf]; omega
      · have e : wOf r = 1 := by rw [← HK.out, List.drop_eq_nil_of_le (by show spans.length ≤ k; have : spans.length = 18 := rfl; omega)]; rfl
        have E := hide e
        clear e
        go_wp2
        go_ret
        exact ⟨ret_int E.out.symm, hbel⟩
  · have hf : isSc r = false := by simpa using hsc
    have HW := hide (wOf_nsc r hf)
    clear hsc
    go_enter Tryz.func77, Tryz.ntmps77
    go_wp2_with (go_at_call 92; refine (scalar_any _ _).mono ?_; rintro e w' ⟨rfl, rfl⟩)
    go_ret
    exact ⟨ret_int HW.out.symm, Below.refl _ _⟩

/-! ### whether it is 2, 0, 1; without those that take no part -/
theorem mark_any (r : Int) (w : World) (hS : Spans w) : Calls Tryz.prog 94 #[.int .i32 r] w (Said (wOf r == 0) w) := by
  go_enter Tryz.func94, Tryz.ntmps94
  go_wp2_with fail
  refine (of_any r w hS).mono ?_
  rintro e w1 ⟨rfl, hb⟩
  go_wp2
  go_ret
  exact ⟨rfl, hb⟩
theorem inB_drop (r : Int) (l : List Int) (j : Nat) (x y : Int) (h : j + 1 < l.length) (hx : l.getD j 0 = x) (hy : l.getD (j + 1) 0 = y) :
    inB r (l.drop j) = ((decide (x ≤ r) && decide (r ≤ y)) || inB r (l.drop (j + 2))) := by
  rw [drop_at l j x (by omega) hx, drop_at l (j + 1) y h hy]; rfl

theorem in_any (r : Int) (A : Option Addr) (n c : Nat) (l : List Int) (w : World) (h : Ints .i64 w A l) (hl : l.length = n) (hm : n % 2 = 0) (hn : n ≤ 1000) :
    Calls Tryz.prog 90 #[.int .i64 r, .slice A n c] w (Said (inB r l) w) := by
  have HL := hide hl
  have HM := hide hm
  clear hl hm
  go_enter Tryz.func90, Tryz.ntmps90
  go_wp2
  go_loopw [5] (fun i wr => ∃ j : Nat, j ≤ n ∧ j % 2 = 0 ∧ i = .int .i64 j ∧ inB r (l.drop j) = inB r l ∧ w = wr) (fun i _ => n - (intOf i).toNat)
  case atStart => exact ⟨0, Nat.zero_le _, rfl, rfl, rfl, rfl⟩
  case round =>
    obtain ⟨j, hj, hj2, rfl, he, rfl⟩ := hrel
    have HE := hide he
    have hcase : (j + 1 < n) ∨ (n ≤ j) := by have := HM.out; omega
    clear he
    rcases hcase with hlt | hge
    · obtain ⟨b, off, rfl, hc, hb⟩ := h.at (i := j) (by rw [HL.out]; omega)
      obtain ⟨b2, off2, e2, hc2, hb2⟩ := h.at (i := j + 1) (by rw [HL.out]; omega)
      cases e2
      obtain ⟨x, hx⟩ : ∃ x, l.getD j 0 = x := ⟨_, rfl⟩
      obtain ⟨y, hy⟩ : ∃ y, l.getD (j + 1) 0 = y := ⟨_, rfl⟩
      have HD := hide (inB_drop r l j x y (by rw [HL.out]; omega) hx hy)
      rw [hx] at hc
      rw [hy] at hc2
      have HJ := hide hj2
      clear hx hy hj2
      by_cases c1 : x ≤ r
      · by_cases c2 : r ≤ y
        · have E : Hid (inB r l = true) := by unfold Hid; rw [← HE.out, HD.out]; simp [c1, c2]
          go_wp2
          go_ret
          exact ⟨ret_bool E.out.symm, Below.refl _ _⟩
        · have E : Hid (inB r (l.drop (j + 2)) = inB r l) := by unfold Hid; rw [← HE.out, HD.out]; simp [c2]
          go_wp2
          go_roundw
          case rel => exact ⟨j + 2, by omega, by have := HJ.out; omega, by go_num, E.out, by trivial⟩
          case measure => simp [intOf]; omega
      · have E : Hid (inB r (l.drop (j + 2)) = inB r l) := by unfold Hid; rw [← HE.out, HD.out]; simp [c1]
        go_wp2
        go_roundw
        case rel => exact ⟨j + 2, by omega, by have := HJ.out; omega, by go_num, E.out, by trivial⟩
        case measure => simp [intOf]; omega
    · have E : Hid (inB r l = false) := by unfold Hid; rw [← HE.out, List.drop_eq_nil_of_le (by rw [HL.out]; omega)]; rfl
      have hge1 : (n : Int) ≤ (j : Int) + 1 := by omega
      clear hj2
      go_wp2
      go_ret
      exact ⟨ret_bool E.out.symm, Below.refl _ _⟩

theorem rof_any (r : Int) (w : World) : Calls Tryz.prog 74 #[.int .i64 r] w (Num .i64 (wOf r) w) := by
  by_cases h0 : r < 32
  · have E : Hid (wOf r = -1) := wOf_no r (.inl h0)
    go_enter Tryz.func74, Tryz.ntmps74
    go_wp2
    go_ret
    exact ⟨ret_int E.out.symm, Below.refl _ _⟩
  have n1 : Ints .i64 (w.alloc (.cells #[.int .i64 127, .int .i64 159] 3)) (some ⟨w.heap.size, 0, none⟩) [127, 159] := Ints.new .i64 w 3 [127, 159]
  by_cases h1 : inB r [127, 159] = true
  · have E : Hid (wOf r = -1) := by unfold Hid wOf; rw [if_pos (.inr (.inl h1))]
    have H1 := hide h1
    clear h1
    go_enter Tryz.func74, Tryz.ntmps74
    go_wp2_with fail
    refine (in_any r _ 2 2 [127, 159] _ n1 rfl rfl (by omega)).mono ?_
    rintro e w1 ⟨rfl, hb1⟩
    rw [H1.out]
    go_wp2
    go_ret
    exact ⟨ret_int E.out.symm, ((Below.refl _ _).alloc (Nat.le_refl _) _).trans (hb1.mono (by simp))⟩
  have h1' : inB r [127, 159] = false := by simpa using h1
  have H1 := hide h1'
  by_cases h2 : isSc r = true
  case neg =>
    have h2' : isSc r = false := by simpa using h2
    have E : Hid (wOf r = -1) := by unfold Hid wOf; rw [if_pos (.inr (.inr h2'))]
    have H2 := hide h2'
    clear h1 h1' h2 h2'
    go_enter Tryz.func74, Tryz.ntmps74
    go_wp2_with fail
    refine (in_any r _ 2 2 [127, 159] _ n1 rfl rfl (by omega)).mono ?_
    rintro e w1 ⟨rfl, hb1⟩
    rw [H1.out]
    have bel1 : Below w.heap.size w w1 := ((Below.refl _ _).alloc (Nat.le_refl _) _).trans (hb1.mono (by simp))
    go_wp2_with fail
    refine (rscalar_any r w1).mono ?_
    rintro e w2 ⟨rfl, rfl⟩
    rw [H2.out]
    go_wp2
    go_ret
    exact ⟨ret_int E.out.symm, bel1⟩
  case pos =>
  have H2 := hide h2
  have hN : ¬ (r < 32 ∨ inB r [127, 159] = true ∨ isSc r = false) := by
    rintro (q | q | q)
    · exact h0 q
    · exact h1 q
    · rw [h2] at q; cases q
  have HN := hide hN
  clear hN h1 h1' h2
  by_cases h3 : inB r marks = true
  · have E : Hid (wOf r = 0) := by unfold Hid wOf; rw [if_neg HN.out, if_pos h3]
    have H3 := hide h3
    clear h3
    go_enter Tryz.func74, Tryz.ntmps74
    go_wp2_with fail
    refine (in_any r _ 2 2 [127, 159] _ n1 rfl rfl (by omega)).mono ?_
    rintro e w1 ⟨rfl, hb1⟩
    rw [H1.out]
    have bel1 : Below w.heap.size w w1 := ((Below.refl _ _).alloc (Nat.le_refl _) _).trans (hb1.mono (by simp))
    go_wp2_with fail
    refine (rscalar_any r w1).mono ?_
    rintro e w2 ⟨rfl, rfl⟩
    rw [H2.out]
    go_wp2_with fail
    refine (in_any r _ 10 10 marks _ (Ints.new .i64 w1 3 marks) rfl rfl (by omega)).mono ?_
    rintro e w2 ⟨rfl, hb2⟩
    rw [H3.out]
    go_wp2
    go_ret
    exact ⟨ret_int E.out.symm, (bel1.alloc bel1.size _).trans (hb2.mono (by have := bel1.size; simp; omega))⟩
  have h3' : inB r marks = false := by simpa using h3
  have H3 := hide h3'
  obtain ⟨v, hv, hvw⟩ : ∃ v : Bool, inB r wides = v ∧ wOf r = (if v = true then 2 else 1) := ⟨_, rfl, by unfold wOf; rw [if_neg HN.out, if_neg h3]⟩
  have HV := hide hv
  have HVW := hide hvw
  clear h3 h3' hv hvw
  go_enter Tryz.func74, Tryz.ntmps74
  go_wp2_with fail
  refine (in_any r _ 2 2 [127, 159] _ n1 rfl rfl (by omega)).mono ?_
  rintro e w1 ⟨rfl, hb1⟩
  rw [H1.out]
  have bel1 : Below w.heap.size w w1 := ((Below.refl _ _).alloc (Nat.le_refl _) _).trans (hb1.mono (by simp))
  go_wp2_with fail
  refine (rscalar_any r w1).mono ?_
  rintro e w2 ⟨rfl, rfl⟩
  rw [H2.out]
  go_wp2_with fail
  refine (in_any r _ 10 10 marks _ (Ints.new .i64 w1 3 marks) rfl rfl (by omega)).mono ?_
  rintro e w2 ⟨rfl, hb2⟩
  rw [H3.out]
  have bel2 : Below w.heap.size w w2 := (bel1.alloc bel1.size _).trans (hb2.mono (by have := bel1.size; simp; omega))
  go_wp2_with fail
  refine (in_any r _ 22 22 wides _ (Ints.new .i64 w2 3 wides) rfl rfl (by omega)).mono ?_
  rintro e w3 ⟨rfl, hb3⟩
  rw [HV.out]
  have bel3 : Below w.heap.size w w3 := (bel2.alloc bel2.size _).trans (hb3.mono (by have := bel2.size; simp; omega))
  cases v
  · go_wp2
    go_ret
    exact ⟨ret_int (by rw [HVW.out]; rfl), bel3⟩
  · go_wp2
    go_ret
    exact ⟨ret_int (by rw [HVW.out]; rfl), bel3⟩
/-! ### a mark more -/
theorem cells7 {w : World} {q : Nat} {t : TypeId} {x0 x1 x2 x3 x4 x5 x6 : Value} (h : Whole w q t [x0, x1, x2, x3, x4, x5, x6]) :
    w.cell? ⟨q, 0, none⟩ = some x0 ∧ w.cell? ⟨q, 1, none⟩ = some x1 ∧ w.cell? ⟨q, 2, none⟩ = some x2 ∧ w.cell? ⟨q, 3, none⟩ = some x3 ∧ w.cell? ⟨q, 4, none⟩ = some x4 ∧ w.cell? ⟨q, 5, none⟩ = some x5 ∧ w.cell? ⟨q, 6, none⟩ = some x6 ∧ ∀ i, w.frozen? ⟨q, i, none⟩ = false :=
  ⟨h.cell 0, h.cell 1, h.cell 2, h.cell 3, h.cell 4, h.cell 5, h.cell 6, h.frozen⟩
theorem whole_put {w : World} {q o : Nat} {t : TypeId} {l : List Value} {r : Nat} (h : Whole w r t l) (hq : r ≠ q) (x : Value) : Whole (w.setCell ⟨q, o, none⟩ x) r t l := by
  unfold Whole
  rw [Below.heap_setCell _ _ _ _ hq]
  exact h
theorem idx0 (m n : Value) (w : World) : (Instr.index 102 (.agg #[m, n]) (.int .i64 0)).run Tryz.prog w = .ok m w := by kernel_rfl
theorem idx1 (m n : Value) (w : World) : (Instr.index 102 (.agg #[m, n]) (.int .i64 1)).run Tryz.prog w = .ok n w := by kernel_rfl
/-- Is a mark wrong, behind a place where one isn't (z)? -/
def wrongC (z : Bool) (x : Int) : Bool := if x = 0 then false else z || !(wOf x == 0)
theorem wrong_0 (z : Bool) (x : Int) (h : x = 0) : wrongC z x = false := by unfold wrongC; rw [if_pos h]
theorem wrong_n (z : Bool) (x : Int) (h : ¬ x = 0) : wrongC z x = (z || !(wOf x == 0)) := by unfold wrongC; rw [if_neg h]
theorem marks_wrong (m n : Int) : marksC m n = !(wrongC false m || wrongC (m == 0) n) := by
  unfold marksC wrongC
  by_cases h : m = 0
  · subst h
    by_cases h2 : n = 0
    · simp [h2]
    · simp [h2]
  · have e : (m == 0) = false := by simpa using h
    rw [if_neg h, if_neg h, e]
    by_cases h2 : n = 0
    · simp [h2]; rfl
    · simp [h2]; rfl
/-- What the closure leaves. -/
def WrongMark (q : Nat) (z : Bool) (x : Int) (w : World) (e : Ending) (w' : World) : Prop :=
  e = .returned (.bool (wrongC z x)) ∧ Whole w' q 4 [.bool (z || (x == 0))] ∧ Fr w.heap.size q w w'
theorem wrong_any (q : Nat) (z : Bool) (x : Int) (w : World) (hq : Whole w q 4 [.bool z]) (hS : Spans w) : Calls Tryz.prog 93 #[.int .i32 x, .pointer (some ⟨q, 0, none⟩)] w (WrongMark q z x w) := by
  have c0 : w.cell? ⟨q, 0, none⟩ = some (.bool z) := hq.cell 0
  have z0 := hq.frozen 0
  have HQ := hide hq
  have HS := hide hS
  clear hq hS
  by_cases h : x = 0
  · have E := hide (wrong_0 z x h)
    have e0 : (x == 0) = true := by simpa using h
    have E0 := hide e0
    clear h
    go_enter Tryz.func93, Tryz.ntmps93
    go_wp2
    go_ret
    exact ⟨ret_bool E.out.symm, by rw [E0.out, Bool.or_true]; exact HQ.out.put 0 _, Fr.put 0 _⟩
  · have E := hide (wrong_n z x h)
    have e0 : (x == 0) = false := by simpa using h
    have E0 := hide e0
    clear h
    cases z
    · go_enter Tryz.func93, Tryz.ntmps93
      go_wp2_with fail
      refine (mark_any x _ HS.out).mono ?_
      rintro e w1 ⟨rfl, hb⟩
      go_wp2
      go_ret
      exact ⟨ret_bool (by rw [E.out]; rfl), by rw [E0.out]; exact HQ.out.later hb, Fr.of_below hb⟩
    · go_enter Tryz.func93, Tryz.ntmps93
      go_wp2
      go_ret
      exact ⟨ret_bool (by rw [E.out]; rfl), by rw [E0.out]; exact HQ.out, Fr.refl⟩
theorem spans_ne {w : World} {g t : Nat} {x : Value} (hS : Spans w) (h : Whole w g t [x]) : 0 ≠ g := by
  rintro rfl
  have h1 := hS 1 (.int .i32 31) rfl
  rw [Nat.zero_add, h.cell 1] at h1
  cases h1
theorem Fr.spans {g : Nat} {w w' : World} (h : Fr w.heap.size g w w') (hS : Spans w) (hg : 0 ≠ g) : Spans w' := fun j v hv => by
  have := hS j v hv
  rw [← this]
  exact World.cell?_of_block (w := w) (h.block 0 hS.size hg)
theorem Fr.whole {g g2 : Nat} {w w' : World} {t : TypeId} {l : List Value} (h : Fr w.heap.size g w w') (hw : Whole w g2 t l) (hne : g2 ≠ g) : Whole w' g2 t l := (h.block g2 hw.lt hne).trans hw
/-- What the search leaves. -/
def FoundMark (q : Nat) (m n : Int) (w : World) (e : Ending) (w' : World) : Prop :=
  e = .returned (.int .i64 (if wrongC false m = true then 0 else if wrongC (m == 0) n = true then 1 else -1)) ∧ Fr w.heap.size q w w'
theorem indexf_any (q a : Nat) (m n : Int) (w : World) (hq : Whole w q 4 [.bool false]) (ha : Whole w a 102 [.int .i32 m, .int .i32 n]) (hne : a ≠ q) (hS : Spans w) :
    Calls Tryz.prog 102 #[.slice (some ⟨a, 0, none⟩) 2 2, .func (.func 93) #[] #[.pointer (some ⟨q, 0, none⟩)]] w (FoundMark q m n w) := by
  have hg0 := spans_ne hS hq
  have HQ := hide hq
  have HA := hide ha
  have HS := hide hS
  clear hq ha hS
  go_enter Tryz.func102, Tryz.ntmps102
  go_wp2
  go_loopw [5, 8] (fun _ i wr => ((i = .int .i64 0 ∧ Whole wr q 4 [.bool false]) ∨ (i = .int .i64 1 ∧ Hid (wrongC false m = false) ∧ Whole wr q 4 [.bool (m == 0)]) ∨ (i = .int .i64 2 ∧ Hid (wrongC false m = false) ∧ Hid (wrongC (m == 0) n = false))) ∧ Fr w.heap.size q w wr) (fun _ i _ => 2 - (intOf i).toNat)
  case atStart => exact ⟨.inl ⟨rfl, HQ.out⟩, Fr.refl⟩
  case round =>
    obtain ⟨hcase, hfr⟩ := hrel
    have HFR := hide hfr
    have HA2 := hide (hfr.whole HA.out hne)
    have HS2 := hide (hfr.spans HS.out hg0)
    clear hfr
    have a0 : wr.cell? ⟨a, 0, none⟩ = some (.int .i32 m) := HA2.out.cell 0
    have a1 : wr.cell? ⟨a, 1, none⟩ = some (.int .i32 n) := HA2.out.cell 1
    rcases hcase with ⟨rfl, hq⟩ | ⟨rfl, H1, hq⟩ | ⟨rfl, H1, H2⟩
    · have HC := hide (wrong_any q false m wr hq HS2.out)
      clear hq
      cases hw : wrongC false m
      · have HW := hide hw
        clear hw
        go_wp2_with fail
        refine HC.out.mono ?_
        rintro e w1 ⟨rfl, h2, h3⟩
        rw [HW.out]
        have H2 := hide h2
        have H3 : Hid (Fr w.heap.size q w w1) := HFR.out.trans (h3.less HFR.out.size)
        clear h2 h3
        go_wp2
        go_roundw
        case rel => exact ⟨.inr (.inl ⟨by go_num, by first | exact HW | exact hide trivial, by simpa using H2.out⟩), H3.out⟩
        case measure => simp [intOf]
      · have HW := hide hw
        clear hw
        go_wp2_with fail
        refine HC.out.mono ?_
        rintro e w1 ⟨rfl, h2, h3⟩
        rw [HW.out]
        go_wp2
        go_ret
        exact ⟨ret_int (by rw [HW.out]; rfl), HFR.out.trans (h3.less HFR.out.size)⟩
    · obtain ⟨z, hz⟩ : ∃ z, (m == 0) = z := ⟨_, rfl⟩
      have HZ := hide hz
      rw [hz] at hq
      have HC := hide (wrong_any q z n wr hq HS2.out)
      clear hq hz
      cases hw : wrongC z n
      · have HW := hide hw
        clear hw
        go_wp2_with fail
        refine HC.out.mono ?_
        rintro e w1 ⟨rfl, h2, h3⟩
        rw [HW.out]
        have H3 : Hid (Fr w.heap.size q w w1) := HFR.out.trans (h3.less HFR.out.size)
        clear h2 h3
        go_wp2
        go_roundw
        case rel => exact ⟨.inr (.inr ⟨by go_num, H1, by unfold Hid; rw [HZ.out]; exact HW.out⟩), H3.out⟩
        case measure => simp [intOf]
      · have HW := hide hw
        clear hw
        go_wp2_with fail
        refine HC.out.mono ?_
        rintro e w1 ⟨rfl, h2, h3⟩
        rw [HW.out]
        go_wp2
        go_ret
        exact ⟨ret_int (by rw [H1.out, HZ.out, HW.out]; rfl), HFR.out.trans (h3.less HFR.out.size)⟩
    · go_wp2
      go_ret
      exact ⟨ret_int (by rw [H1.out, H2.out]; rfl), HFR.out⟩
/-- .. -/
def HasWrong (q : Nat) (m n : Int) (w : World) (e : Ending) (w' : World) : Prop := e = .returned (.bool (!marksC m n)) ∧ Fr w.heap.size q w w'
theorem contains_any (q a : Nat) (m n : Int) (w : World) (hq : Whole w q 4 [.bool false]) (ha : Whole w a 102 [.int .i32 m, .int .i32 n]) (hne : a ≠ q) (hS : Spans w) :
    Calls Tryz.prog 95 #[.slice (some ⟨a, 0, none⟩) 2 2, .func (.func 93) #[] #[.pointer (some ⟨q, 0, none⟩)]] w (HasWrong q m n w) := by
  have HC := hide (indexf_any q a m n w hq ha hne hS)
  have HM := hide (marks_wrong m n)
  clear hq ha hS
  obtain ⟨x, hx⟩ : ∃ x, wrongC false m = x := ⟨_, rfl⟩
  obtain ⟨y, hy⟩ : ∃ y, wrongC (m == 0) n = y := ⟨_, rfl⟩
  have HX := hide hx
  have HY := hide hy
  clear hx hy
  cases x <;> cases y
  all_goals
    go_enter Tryz.func95, Tryz.ntmps95
    go_wp2_with fail
    refine HC.out.mono ?_
    rintro e w1 ⟨rfl, h3⟩
    rw [HX.out, HY.out]
    go_wp2
    go_ret
    exact ⟨ret_bool (by rw [HM.out, HX.out, HY.out]; rfl), h3⟩
theorem rmarks_any (m n : Int) (w : World) (hS : Spans w) : Calls Tryz.prog 78 #[.agg #[.int .i32 m, .int .i32 n]] w (Said (marksC m n) w) := by
  obtain ⟨W0, hW0⟩ : ∃ W0, (w.alloc (.cells #[.int .i32 m, .int .i32 n] 102)).alloc (.cells #[.bool false] 4) = W0 := ⟨_, rfl⟩
  have HS : Hid (Spans W0) := by unfold Hid; rw [← hW0]; exact (hS.alloc _).alloc _
  have HB : Hid (Below w.heap.size w W0) := by unfold Hid; rw [← hW0]; exact two_new w _ _ [.int .i32 m, .int .i32 n] [.bool false]
  have HA : Hid (Whole W0 w.heap.size 102 [.int .i32 m, .int .i32 n]) := by unfold Hid; rw [← hW0]; exact (Whole.new w 102 [.int .i32 m, .int .i32 n]).alloc _
  have HQ : Hid (Whole W0 (w.heap.size + 1) 4 [.bool false]) := by unfold Hid; rw [← hW0]; exact whole_snd w _ 4 [.bool false]
  have HZ : Hid (w.heap.size + 1 ≤ W0.heap.size) := by unfold Hid; rw [← hW0]; simp
  have HW0 := hide hW0
  clear hS hW0
  go_enter Tryz.func78, Tryz.ntmps78
  go_wp2_with fail
  rw [HW0.out]
  refine (contains_any (w.heap.size + 1) w.heap.size m n W0 HQ.out HA.out (by omega) HS.out).mono ?_
  rintro e w1 ⟨rfl, h3⟩
  go_wp2
  go_ret
  exact ⟨ret_bool (by simp), HB.out.trans (h3.below (by have := HZ.out; omega) (by omega))⟩
end
end Go.Proofs.YtcbdokocnjoilaaGreatDoor
