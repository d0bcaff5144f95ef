/-
  Rows of cells that a call makes: made zero, copied onto, appended to, stored into.
-/
import Derived.Test.YtdeoeihbmdgipaaDoorLMem
import Derived.OwnWalk
namespace Go.Proofs.YtdeoeihbmdgipaaDoor
open Go.ChangeShapes Go.WideShapes Go.ChangeAt Go.RowKit
set_option linter.unusedVariables false

/-- What the loaded program's table says of a slice type S over cells of type e. -/
structure ElemC (P : Program) (S e : TypeId) (k : IntKind) (bytes : Nat) : Prop where
  under : P.underlying S = some (.slice e)
  info : (P.info? e).map (fun i => (i.zero, i.size, i.bytes)) = some (some (.agg (cellL k zeroC).toArray), 7, bytes)
theorem elemL : ElemC Tryd.prog 22 27 .i32 16 := ⟨Tryd.underlying22, by kernel_rfl⟩
theorem elemLC : ElemC Tryd.prog 29 38 .i64 32 := ⟨Tryd.underlying29, by kernel_rfl⟩

/-! ### laid over -/
/-- ds with xs laid over it from a place on. -/
def layC (ds : List Cel) (p : Nat) (xs : List Cel) : List Cel := ds.take p ++ (xs ++ ds.drop (p + xs.length))
theorem lay_len (ds : List Cel) (p : Nat) (xs : List Cel) (h : p + xs.length ≤ ds.length) : (layC ds p xs).length = ds.length := by unfold layC; simp; omega
theorem lay_tab (ds : List Cel) (p : Nat) (xs : List Cel) (h : p + xs.length ≤ ds.length) : layC ds p xs = tab ds.length (fun i => if p ≤ i ∧ i < p + xs.length then cAt xs (i - p) else cAt ds i) := by
  refine tab_is (lay_len ds p xs h) fun i hi => ?_
  unfold layC cAt
  rw [List.getD_eq_getElem?_getD]
  by_cases h1 : i < p
  · rw [if_neg (by omega), List.getElem?_append_left (by simp; omega), List.getElem?_take, if_pos h1, List.getD_eq_getElem?_getD]
  · have hl : (ds.take p).length = p := by simp; omega
    rw [List.getElem?_append_right (by omega), hl]
    by_cases h2 : i < p + xs.length
    · rw [if_pos (by omega), List.getElem?_append_left (by omega), List.getD_eq_getElem?_getD]
    · rw [if_neg (by omega), List.getElem?_append_right (by omega), List.getElem?_drop, List.getD_eq_getElem?_getD, show p + xs.length + (i - p - xs.length) = i by omega]
theorem flat_lay (k : IntKind) (ds : List Cel) (p : Nat) (xs : List Cel) : flatC k (layC ds p xs) = (flatC k ds).take (p * 7) ++ (flatC k xs ++ (flatC k ds).drop (p * 7 + (flatC k xs).length)) := by
  unfold layC
  rw [flatC_append, flatC_append, flatC_take, flatC_drop, flatC_len k xs, Nat.add_mul]
theorem set_lay (ds : List Cel) (p : Nat) (c : Cel) (h : p < ds.length) : ds.set p c = layC ds p [c] := by
  unfold layC
  rw [List.set_eq_take_append_cons_drop, if_pos h]
  rfl

/-- An operation whose value and world are known. -/
theorem wpList_run {P : Program} {ops : Array Oper} {rest : List Oper} {o : Oper} {a : Act} {w w' : World} {Q : Exit → Act → World → Prop} {v : Value} (hw : Region.wanted o (yielded ops a.tmps) = true)
    (hrun : (execOp a.eval o).run P w = .ok (.value v) w') (h : wpList P ops Q rest (a.put o.dst v) w') : wpList P ops Q (o :: rest) a w :=
  wpList_want hw fun K hK => by
    unfold Oper.wp
    rw [hrun]
    exact hK _ _ h

theorem stopw {p : Prop} (h : Hid p) : p := h
/-! ### make -/
theorem zeros_flat (k : IntKind) (n : Nat) : (madeCells (cellL k zeroC).toArray (n * 7)).toList = flatC k (List.replicate n zeroC) := by
  apply List.ext_getElem?
  intro j
  by_cases hj : j < n * 7
  · have e : j = j / 7 * 7 + j % 7 := by omega
    have hq : j / 7 < n := by omega
    have hd : j % 7 < 7 := by omega
    have h1 : (flatC k (List.replicate n zeroC))[j]? = (cellL k zeroC)[j % 7]? := by
      conv => lhs; rw [e]
      rw [flatC_get k _ _ _ hd, List.getElem?_replicate, if_pos hq]
      rfl
    rw [h1]
    simp only [madeCells, Array.toList_map, List.getElem?_map, Array.toList_range, List.getElem?_range hj, Option.map_some]
    have hs : (cellL k zeroC).toArray.size = 7 := rfl
    rw [hs]
    have : j % 7 < (cellL k zeroC).toArray.size := hd
    rw [getElem!_pos (cellL k zeroC).toArray (j % 7) this]
    have h2 : j % 7 < (cellL k zeroC).length := hd
    rw [List.getElem?_eq_getElem h2]
    rfl
  · rw [List.getElem?_eq_none (by rw [Array.length_toList, size_madeCells]; omega), List.getElem?_eq_none (by rw [flatC_len]; simp; omega)]
theorem whole_owned {w : World} {B : Nat} {e : TypeId} {g n : Nat} {xs : List Value} (h : w.ownsRow B e 7 (.slice (some ⟨g, 0, none⟩) n n) n xs) : Whole w g e xs := by
  rcases h.2 with ⟨h', _⟩ | ⟨g', cap', cur, h', hb, hg, hnc, hcm, hcs, htake⟩
  · cases h'
  · simp only [Value.slice.injEq, Option.some.injEq, Addr.mk.injEq, and_true, true_and] at h'
    obtain ⟨rfl, rfl⟩ := h'
    rw [List.take_of_length_le (Nat.le_of_eq (by rw [Array.length_toList, hcs]))] at htake
    subst htake
    exact hg
/-- 'make([]Cell, n)'. -/
theorem wpList_makeL {P : Program} {S e : TypeId} {k : IntKind} {bytes : Nat} (E : ElemC P S e k bytes) {ops : Array Oper} {rest : List Oper} {o : Oper} {a : Act} {w : World} {Q : Exit → Act → World → Prop} (hg : o.guard = none) (x y : Operand) (hop : o.op = .makeSlice S x y)
    (n : Nat) (hx : a.eval x = .int .i64 (n : Int)) (hy : a.eval y = .int .i64 (n : Int)) (hn : n ≤ 1000000) (hby : bytes ≤ 1000)
    (h : ∀ w', Whole w' w.heap.size e (flatC k (List.replicate n zeroC)) → Below w.heap.size w w' → wpList P ops Q rest (a.put o.dst (.slice (some ⟨w.heap.size, 0, none⟩) n n)) w') : wpList P ops Q (o :: rest) a w := by
  obtain ⟨i0, hi, hz0, hz1, hz2⟩ := info_parts E.info
  have hb : bytes * n ≤ 1000 * 1000000 := Nat.mul_le_mul hby hn
  refine wpList_make_full w hg x y S hop w.heap.size e i0 _ 7 E.under hi hz0 hz1 .i64 .i64 n n n hx hy rfl rfl (by rw [hz2]; omega) (by unfold maxLen; omega) (Nat.le_refl _) ?_
  intro w' ho hgr
  have hw := whole_owned ho
  rw [show (Value.agg (cellL k zeroC).toArray).cells = (cellL k zeroC).toArray from rfl, zeros_flat] at hw
  exact h w' hw ⟨hgr.os, hgr.tape, hgr.output, hgr.size, fun i hi => hgr.block i hi (by simp)⟩

/-! ### copy -/
theorem run_copy7 {P : Program} {S e : TypeId} {k : IntKind} {bytes : Nat} (E : ElemC P S e k bytes) (w : World) (S' ty : TypeId) (g o dLen dCap : Nat) (ad : Addr) (sLen sCap : Nat) (cur : Array Value) (t : TypeId) (cs : List Value)
    (hg : w.heap[g]? = some (.cells cur t (0, 0))) (hn : cs.length = Nat.min sLen dLen * 7)
    (hsrc : ∀ j v, cs[j]? = some v → w.cell? (ad.add j) = some v) (hfit : o + cs.length ≤ cur.size) (h1 : ∀ v ∈ cs, v.oneCell' = true) :
    (Builtin.copy_ #[S, S'] ty #[.slice (some ⟨g, o, none⟩) dLen dCap, .slice (some ad) sLen sCap]).run P w =
      .ok (goInt (Nat.min sLen dLen)) (w.setRow g (cur.toList.take o ++ cs ++ cur.toList.drop (o + cs.length)).toArray) := by
  have hl := run_loadCells_list (P := P) w ad cs hsrc
  have hst := run_storeCells_at P g o t cs 0 cur w hg (by simpa using hfit) h1
  obtain ⟨i, hq, _, hi, _⟩ := info_parts E.info
  simp [Builtin.copy_, run_underlying E.under, Builtin.lenOf, Builtin.firstCells, sizeOf, typeInfo, hq, hi, ← hn, hl, hst]
theorem run_copy7_none {P : Program} {S e : TypeId} {k : IntKind} {bytes : Nat} (E : ElemC P S e k bytes) (w : World) (S' ty : TypeId) (d a : Option Addr) (dLen dCap sLen sCap : Nat) (hn : Nat.min sLen dLen = 0) :
    (Builtin.copy_ #[S, S'] ty #[.slice d dLen dCap, .slice a sLen sCap]).run P w = .ok (goInt 0) w := by
  obtain ⟨i, hq, _, hi, _⟩ := info_parts E.info
  have hl : ∀ (x : Addr), (loadCells x 0).run P w = .ok #[] w := fun x => by simpa using run_loadCells_list (P := P) w x [] (by simp)
  cases d <;> cases a <;> simp [Builtin.copy_, run_underlying E.under, Builtin.lenOf, Builtin.firstCells, sizeOf, typeInfo, hq, hn, storeCells, hl]
/-- 'copy(row[p:], src)', the row known whole: the run. -/
theorem run_copyL {P : Program} {S e : TypeId} {k : IntKind} {bytes : Nat} (E : ElemC P S e k bytes) (w : World) (ty : TypeId) (g p : Nat) (t : TypeId) (ds xs : List Cel) (A : Option Addr) (dLen dCap sLen sCap : Nat)
    (hw : Whole w g t (flatC k ds)) (hA : Cels k w A xs) (hx : xs.length = sLen) (hfit : p + dLen ≤ ds.length) :
    ∃ w', (Builtin.copy_ #[S, S] ty #[.slice (some ⟨g, p * 7, none⟩) dLen dCap, .slice A sLen sCap]).run P w = .ok (goInt (Nat.min sLen dLen)) w' ∧ Whole w' g t (flatC k (layC ds p (xs.take dLen))) ∧ Only g w w' := by
  subst hx
  rcases hA with rfl | ⟨b, off, rfl, hc⟩
  · exact ⟨w, by simpa using run_copy7_none E w S ty (some ⟨g, p * 7, none⟩) A dLen dCap 0 sCap (by simp), by simpa [layC] using hw, Only.refl⟩
  · have hadd : ∀ j, (⟨b, off, none⟩ : Addr).add j = ⟨b, off + j, none⟩ := fun j => by unfold Addr.add; split <;> simp_all
    have hlen : (flatC k (xs.take dLen)).length = Nat.min xs.length dLen * 7 := by rw [flatC_len, List.length_take]; congr 1; exact Nat.min_comm _ _
    have hrun := run_copy7 E w S ty g (p * 7) dLen dCap ⟨b, off, none⟩ xs.length sCap (flatC k ds).toArray t (flatC k (xs.take dLen)) hw hlen
      (fun j v hj => by rw [hadd]; rw [flatC_take, List.getElem?_take] at hj; split at hj; exact hc j v hj; cases hj)
      (by rw [hlen, List.size_toArray, flatC_len, ← Nat.add_mul]; refine Nat.mul_le_mul_right _ ?_; have : Nat.min xs.length dLen ≤ dLen := Nat.min_le_right _ _; omega) (flatC_one k _)
    refine ⟨_, hrun, ?_, ⟨rfl, rfl, rfl, by simp [World.setRow], fun i _ hne => setRow_other w g i _ (by intro q; exact hne (by simp [q]))⟩⟩
    unfold Whole
    rw [flat_lay]
    simpa using setRow_heap w g _ _ t _ hw

/-! ### append -/
/-- A row of cells of the call's own (blocks from B on), all that lay below B being as it was. -/
structure OwnC (e : TypeId) (k : IntKind) (B : Nat) (w wr : World) (v : Value) (cs : List Cel) : Prop where
  own : wr.ownsRow B e 7 v cs.length (flatC k cs)
  bel : Below B w wr
  le : B ≤ wr.heap.size
section
variable {e : TypeId} {k : IntKind} {B : Nat} {w wr : World} {v : Value} {cs : List Cel}
theorem OwnC.start (hB : B ≤ w.heap.size) : OwnC e k B w w (.slice none 0 0) [] := ⟨World.ownsRow_nil _ _ _ _, Below.refl _ _, hB⟩
theorem OwnC.from0 (hB : B ≤ wr.heap.size) (hb : Below B w wr) : OwnC e k B w wr (.slice none 0 0) [] := ⟨World.ownsRow_nil _ _ _ _, hb, hB⟩
theorem OwnC.empty (w : World) (e : TypeId) (k : IntKind) : OwnC e k w.heap.size w (w.alloc (.cells #[] e)) (.slice (some ⟨w.heap.size, 0, none⟩) 0 0) [] :=
  ⟨⟨by simp [flatC], .inr ⟨w.heap.size, 0, #[], rfl, Nat.le_refl _, heap_alloc_new w _, Nat.le_refl _, Nat.zero_le _, rfl, rfl⟩⟩, (Below.refl _ _).alloc (Nat.le_refl _) _, by simp⟩
theorem OwnC.form (h : OwnC e k B w wr v cs) : ∃ A cap, v = .slice A cs.length cap ∧ Cels k wr A cs ∧ cs.length ≤ cap ∧ (A = none → cap = 0) ∧ cap ≤ maxLen := by
  rcases h.own.2 with ⟨rfl, h0⟩ | ⟨g, cap, cur, rfl, _, _, hc, hm, _, _⟩
  · have : cs = [] := List.eq_nil_of_length_eq_zero h0
    subst this
    exact ⟨none, 0, rfl, .nil, Nat.le_refl _, fun _ => rfl, Nat.zero_le _⟩
  · refine ⟨_, cap, rfl, .inr ⟨g, 0, rfl, fun i v hi => ?_⟩, hc, (fun h => by cases h), hm⟩
    have := h.own.cells (g := g) rfl i v hi
    rwa [show (⟨g, 0, none⟩ : Addr).add i = ⟨g, 0 + i, none⟩ by unfold Addr.add; split <;> simp_all] at this
theorem OwnC.later {w1 : World} (h : OwnC e k B w wr v cs) (hb : Below wr.heap.size wr w1) : OwnC e k B w w1 v cs := by
  refine ⟨⟨h.own.1, ?_⟩, h.bel.trans (hb.mono h.le), Nat.le_trans h.le hb.size⟩
  rcases h.own.2 with h0 | ⟨g, cap, cur, hv, hB, hh, h1⟩
  · exact .inl h0
  · refine .inr ⟨g, cap, cur, hv, hB, ?_, h1⟩
    rw [hb.block g (Array.getElem?_eq_some_iff.1 hh).1, hh]
theorem OwnC.alloc (h : OwnC e k B w wr v cs) (o : Obj) : OwnC e k B w (wr.alloc o) v cs := h.later ((Below.refl _ _).alloc (Nat.le_refl _) _)
theorem OwnC.grown {w1 : World} {v' : Value} {ns : List Cel} (h : OwnC e k B w wr v cs) (h1 : w1.ownsRow B e 7 v' (cs.length + ns.length) (flatC k cs ++ flatC k ns))
    (hg : wr.grownBy w1 v.ownBlock) : OwnC e k B w w1 v' (cs ++ ns) :=
  ⟨by simpa [flatC_append] using h1, h.bel.grown hg h.le (own_ge h.own), Nat.le_trans h.le hg.size⟩
end
theorem cells_new7 (w : World) (l : List Value) (t : TypeId) : ∀ j u, l[j]? = some u → (w.alloc (.cells l.toArray t)).cell? ((⟨w.heap.size, 0, none⟩ : Addr).add j) = some u := by
  intro j u hj
  rw [show (⟨w.heap.size, 0, none⟩ : Addr).add j = ⟨w.heap.size, j, none⟩ by unfold Addr.add; split <;> simp_all, (Whole.new w t l).cell j, hj]
/-- 'append(row, c)', c in a block of its own. -/
theorem wpList_pushC {P : Program} {S e : TypeId} {k : IntKind} {bytes : Nat} (E : ElemC P S e k bytes) {ops : Array Oper} {rest : List Oper} {o : Oper} {a : Act} {Q : Exit → Act → World → Prop} {B : Nat} {w wr : World} {v : Value} {cs : List Cel} (c : Cel)
    (hgd : Region.wanted o (yielded ops a.tmps) = true) (s y : Operand) (ho : o.op = .call { callee := .builtin .append, args := #[s, y], argTypes := #[S, S] })
    (hs : a.eval s = v) (hy : a.eval y = .slice (some ⟨wr.heap.size, 0, none⟩) 1 1) (hown : OwnC e k B w wr v cs) (hlen : cs.length ≤ 1000000) (hby : bytes ≤ 1000)
    (h : ∀ v' w1, OwnC e k B w w1 v' (cs ++ [c]) → wpList P ops Q rest (a.put o.dst v') w1) : wpList P ops Q (o :: rest) a (wr.alloc (.cells #[.int k c.r, .int k c.m, .int k c.n, .int .u8 (c.w : Int), .int .u8 (c.p.f : Int), .int .u8 (c.p.g : Int), .int .u8 (c.p.b : Int)] e)) := by
  obtain ⟨i0, hi, hz0, hz1, hz2⟩ := info_parts E.info
  have hb : (cs.length + 1) * bytes ≤ 1000001 * 1000 := Nat.mul_le_mul (by omega) hby
  refine wpList_want hgd fun K hK => ?_
  refine wp_append_own _ s y S ho B e i0 _ 7 bytes E.under hi hz0 hz1 hz2 rfl (by decide) v cs.length _ hs (hown.alloc _).own ⟨wr.heap.size, 0, none⟩ 1 1 (cellL k c) hy rfl (cells_new7 _ (cellL k c) e) (by have := flatC_one k [c]; simpa [flatC] using this)
    (by unfold maxLen; omega) (by omega) (by have := hown.le; simp; omega) ?_
  intro v' w1 h1 hg _
  exact hK _ _ (h v' w1 ((hown.alloc _).grown (ns := [c]) (by simpa [flatC] using h1) hg))
/-- 'append(row, src...)', src whatever. -/
theorem wpList_catC {P : Program} {S e : TypeId} {k : IntKind} {bytes : Nat} (E : ElemC P S e k bytes) {ops : Array Oper} {rest : List Oper} {o : Oper} {a : Act} {Q : Exit → Act → World → Prop} {B : Nat} {w wr : World} {v : Value} {cs ns : List Cel} {A : Option Addr} {n c : Nat}
    (hgd : Region.wanted o (yielded ops a.tmps) = true) (s y : Operand) (ho : o.op = .call { callee := .builtin .append, args := #[s, y], argTypes := #[S, S] })
    (hs : a.eval s = v) (hy : a.eval y = .slice A n c) (hown : OwnC e k B w wr v cs) (hns : Cels k wr A ns) (hn : ns.length = n) (hc : A = none → c = 0) (hlen : cs.length + n ≤ 1000000) (hby : bytes ≤ 1000)
    (h : ∀ v' w1, OwnC e k B w w1 v' (cs ++ ns) → wpList P ops Q rest (a.put o.dst v') w1) : wpList P ops Q (o :: rest) a wr := by
  subst hn
  obtain ⟨i0, hi, hz0, hz1, hz2⟩ := info_parts E.info
  have hb : (cs.length + ns.length) * bytes ≤ 1000000 * 1000 := Nat.mul_le_mul hlen hby
  refine wpList_want hgd fun K hK => ?_
  cases A with
  | none =>
    have hn : ns = [] := by
      rcases hns with h | ⟨_, _, h, _⟩
      · exact h
      · cases h
    subst hn
    obtain rfl : c = 0 := hc rfl
    have hrun := run_append_owned_none (P := P) (w := wr) B S o.type e i0 7 E.under hi v cs.length _ hown.own
    unfold Oper.wp
    simp [execOp, ho, resolve, invoke, builtin, hs, hy, hrun, Result.andThen]
    exact hK _ _ (h v wr (by simpa using hown))
  | some ad =>
    refine wp_append_own _ s y S ho B e i0 _ 7 bytes E.under hi hz0 hz1 hz2 rfl (by decide) v cs.length _ hs hown.own ad ns.length c (flatC k ns) hy (flatC_len k ns) ?_ (flatC_one k ns)
      (by unfold maxLen; omega) (by omega) hown.le ?_
    · intro j u hu
      rcases hns with rfl | ⟨b, off, e1, hcell⟩
      · simp [flatC] at hu
      · cases e1
        rw [show (⟨b, off, none⟩ : Addr).add j = ⟨b, off + j, none⟩ by unfold Addr.add; split <;> simp_all]
        exact hcell j u hu
    · intro v' w1 h1 hg _
      exact hK _ _ (h v' w1 (hown.grown h1 hg))
end Go.Proofs.YtdeoeihbmdgipaaDoor
