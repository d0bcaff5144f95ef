/-
  Grids in memory: the program's (a struct, a row of rows, all rows cut from one piece) and the document's (rows of lines).
-/
import Derived.Test.YtiifeniijcnahaaGreatDoorGMath
import Derived.Test.YtiifeniijcnahaaGreatDoorLnd
import Derived.Test.YtiifeniijcnahaaGreatDoorGen
namespace Go.Proofs.YtiifeniijcnahaaGreatDoor
set_option maxRecDepth 100000
open Go.ChangeShapes Go.WideShapes Go.ChangeAt Go.RowKit
set_option linter.unusedVariables false

/-! ### blocks -/
theorem Whole.ne {w : World} {a b : Nat} {t t' : TypeId} {l l' : List Value} (h : Whole w a t l) (k : Whole w b t' l') (ht : t ≠ t') : a ≠ b := by
  rintro rfl
  unfold Whole at h k
  rw [h] at k
  simp only [Option.some.injEq, Obj.cells.injEq] at k
  exact ht k.2.1
theorem Whole.same {w w' : World} {g : Nat} {t : TypeId} {l : List Value} (h : Whole w g t l) (e : w'.heap[g]? = w.heap[g]?) : Whole w' g t l := e.trans h
/-- Blocks G, L, M alone, and what is new, have turned. -/
structure Trn (G L M : Nat) (w w' : World) : Prop where
  os : w'.os = w.os
  tape : w'.tape = w.tape
  output : w'.output = w.output
  size : w.heap.size ≤ w'.heap.size
  block : ∀ i, i < w.heap.size → i ≠ G → i ≠ L → i ≠ M → w'.heap[i]? = w.heap[i]?
section
variable {G L M L' : Nat} {w w' w'' : World}
theorem Trn.refl : Trn G L M w w := ⟨rfl, rfl, rfl, Nat.le_refl _, fun _ _ _ _ _ => rfl⟩
theorem Trn.trans (h : Trn G L M w w') (k : Trn G L' M w' w'') (hL : L' = L ∨ w.heap.size ≤ L') : Trn G L M w w'' :=
  ⟨k.os.trans h.os, k.tape.trans h.tape, k.output.trans h.output, Nat.le_trans h.size k.size, fun i hi h1 h2 h3 => (k.block i (Nat.lt_of_lt_of_le hi h.size) h1 (by rcases hL with rfl | q; exact h2; omega) h3).trans (h.block i hi h1 h2 h3)⟩
theorem Trn.of_below (h : Below w.heap.size w w') : Trn G L M w w' := ⟨h.os, h.tape, h.output, h.size, fun i hi _ _ _ => h.block i hi⟩
theorem Trn.of_onlyM (h : Only M w w') : Trn G L M w w' := ⟨h.os, h.tape, h.output, h.size, fun i hi _ _ h3 => h.block i hi (by simpa using h3)⟩
theorem Trn.of_onlyG (h : Only G w w') : Trn G L M w w' := ⟨h.os, h.tape, h.output, h.size, fun i hi h1 _ _ => h.block i hi (by simpa using h1)⟩
/-- Where G, L, M are all new. -/
theorem Trn.below {B : Nat} {a : World} (h : Trn G L M w w') (hb : Below B a w) (hB : B ≤ w.heap.size) (hG : B ≤ G) (hL : B ≤ L) (hM : B ≤ M) : Below B a w' :=
  ⟨h.os.trans hb.os, h.tape.trans hb.tape, h.output.trans hb.output, Nat.le_trans hb.size h.size, fun i hi => (h.block i (by omega) (by omega) (by omega) (by omega)).trans (hb.block i hi)⟩
theorem Trn.whole (h : Trn G L M w w') {g : Nat} {t : TypeId} {l : List Value} (hw : Whole w g t l) (h1 : g ≠ G) (h2 : g ≠ L) (h3 : g ≠ M) : Whole w' g t l := hw.same (h.block g hw.lt h1 h2 h3)
end

/-! ### the program's grid -/
/-- A row's value: a part of the piece M. -/
def rowV (M C : Nat) (ps : Nat → Nat) (i : Nat) : Value := .slice (some ⟨M, ps i * C * 7, none⟩) C C
def rowsV (M C : Nat) (ps : Nat → Nat) (R : Nat) : List Value := (List.range R).map (rowV M C ps)
theorem rowsV_len (M C : Nat) (ps : Nat → Nat) (R : Nat) : (rowsV M C ps R).length = R := by simp [rowsV]
theorem rowsV_get (M C : Nat) (ps : Nat → Nat) (R i : Nat) (h : i < R) : (rowsV M C ps R)[i]? = some (rowV M C ps i) := by simp [rowsV, h]
/-- A part of the piece. -/
def partC (room : List Cel) (C q : Nat) : List Cel := (room.drop (q * C)).take C
theorem part_tab (room : List Cel) (C q : Nat) (h : q * C + C ≤ room.length) : partC room C q = tab C (fun i => cAt room (q * C + i)) := by
  refine tab_is (by unfold partC; rw [List.length_take, List.length_drop]; omega) fun i hi => ?_
  unfold partC cAt
  simp [hi]
theorem part_len (room : List Cel) (C q : Nat) (h : q * C + C ≤ room.length) : (partC room C q).length = C := by rw [part_tab room C q h, tab_len]
theorem mul_room {q R C n : Nat} (hq : q < R) (hn : n = R * C) : q * C + C ≤ n := by
  have : (q + 1) * C ≤ R * C := Nat.mul_le_mul_right _ hq
  rw [Nat.add_mul, Nat.one_mul] at this
  omega
theorem part_lay (room xs : List Cel) (C q r R : Nat) (hr : r < R) (hq : q < R) (hn : room.length = R * C) (hx : xs.length = C) : partC (layC room (r * C) xs) C q = if q = r then xs else partC room C q := by
  have h1 := mul_room hr hn
  have h2 := mul_room hq hn
  have hl : (layC room (r * C) xs).length = room.length := lay_len room (r * C) xs (by omega)
  rw [part_tab _ C q (by omega), lay_tab room (r * C) xs (by omega)]
  have key : ∀ i, i < C → cAt (tab room.length fun i => if r * C ≤ i ∧ i < r * C + xs.length then cAt xs (i - r * C) else cAt room i) (q * C + i) = if r * C ≤ q * C + i ∧ q * C + i < r * C + C then cAt xs (q * C + i - r * C) else cAt room (q * C + i) := by
    intro i hi
    rw [tab_cAt _ _ _ (by omega), hx]
  rw [tab_eq key]
  split
  · rename_i e
    subst e
    refine (tab_is hx fun i hi => ?_).symm
    rw [if_pos (by omega), show q * C + i - q * C = i by omega]
  · rename_i e
    rw [part_tab room C q h2]
    refine tab_eq fun i hi => ?_
    rw [if_neg ?_]
    rcases Nat.lt_or_gt_of_ne e with g | g
    · have := mul_room (C := C) g rfl
      omega
    · have := mul_room (C := C) g rfl
      omega

/-- A grid: a struct in G, its rows' values in L, the cells of all rows in M. -/
structure GridAt (w : World) (G L M R C : Nat) (g : Gd) (cap : Nat) (ps : Nat → Nat) (room : List Cel) (more : List Value) : Prop where
  top : Whole w G 93 [.int .i64 (g.row : Int), .int .i64 (g.col : Int), .slice (some ⟨L, 0, none⟩) R cap]
  lines : Whole w L 41 (rowsV M C ps R ++ more)
  piece : Whole w M 40 (flatC .i32 room)
  len : room.length = R * C
  cap1 : R ≤ cap
  cap2 : cap ≤ maxLen
  perm : ∀ i, i < R → ps i < R
  inj : ∀ i j, i < R → j < R → ps i = ps j → i = j
  ls : g.ls = gtab R (fun i => partC room C (ps i))
def Grd (w : World) (G L M R C : Nat) (g : Gd) : Prop := ∃ cap ps room more, GridAt w G L M R C g cap ps room more

section
variable {w w' : World} {G L M R C : Nat} {g : Gd} {cap : Nat} {ps : Nat → Nat} {room : List Cel} {more : List Value}
theorem GridAt.neGL (h : GridAt w G L M R C g cap ps room more) : G ≠ L := h.top.ne h.lines (by decide)
theorem GridAt.neGM (h : GridAt w G L M R C g cap ps room more) : G ≠ M := h.top.ne h.piece (by decide)
theorem GridAt.neLM (h : GridAt w G L M R C g cap ps room more) : L ≠ M := h.lines.ne h.piece (by decide)
theorem GridAt.row (h : GridAt w G L M R C g cap ps room more) {i : Nat} (hi : i < R) : w.cell? ⟨L, i, none⟩ = some (.slice (some ⟨M, ps i * C * 7, none⟩) C C) := by
  rw [h.lines.cell, List.getElem?_append_left (by rw [rowsV_len]; exact hi), rowsV_get _ _ _ _ _ hi]
  rfl
theorem GridAt.lAt (h : GridAt w G L M R C g cap ps room more) {i : Nat} (hi : i < R) : lAt g.ls i = partC room C (ps i) := by rw [h.ls, gtab_lAt _ _ _ hi]
theorem GridAt.lenAt (h : GridAt w G L M R C g cap ps room more) {i : Nat} (hi : i < R) : (Proofs.YtiifeniijcnahaaGreatDoor.lAt g.ls i).length = C := by rw [h.lAt hi]; exact part_len _ _ _ (mul_room (h.perm i hi) h.len)
theorem GridAt.glen (h : GridAt w G L M R C g cap ps room more) : g.ls.length = R := by rw [h.ls, gtab_len]
theorem GridAt.cels (h : GridAt w G L M R C g cap ps room more) {i : Nat} (hi : i < R) : Cels .i32 w (some ⟨M, ps i * C * 7, none⟩) (Proofs.YtiifeniijcnahaaGreatDoor.lAt g.ls i) := by
  refine .inr ⟨M, ps i * C * 7, rfl, fun j v hj => ?_⟩
  rw [h.lAt hi] at hj
  unfold partC at hj
  rw [flatC_take, List.getElem?_take] at hj
  split at hj
  · rw [flatC_drop, List.getElem?_drop] at hj
    rw [h.piece.cell, hj]
  · cases hj
/-- Where its three blocks are as they were. -/
theorem GridAt.same (h : GridAt w G L M R C g cap ps room more) (hG : w'.heap[G]? = w.heap[G]?) (hL : w'.heap[L]? = w.heap[L]?) (hM : w'.heap[M]? = w.heap[M]?) : GridAt w' G L M R C g cap ps room more :=
  ⟨h.top.same hG, h.lines.same hL, h.piece.same hM, h.len, h.cap1, h.cap2, h.perm, h.inj, h.ls⟩
theorem GridAt.later (h : GridAt w G L M R C g cap ps room more) (hb : Below w.heap.size w w') : GridAt w' G L M R C g cap ps room more :=
  h.same (hb.block _ h.top.lt) (hb.block _ h.lines.lt) (hb.block _ h.piece.lt)
/-- A line laid onto a row. -/
theorem GridAt.lay (h : GridAt w G L M R C g cap ps room more) {r : Nat} (hr : r < R) (xs : List Cel) (hx : xs.length = C) (ho : Only M w w') (hw : Whole w' M 40 (flatC .i32 (layC room (ps r * C) xs))) :
    GridAt w' G L M R C { g with ls := g.ls.set r xs } cap ps (layC room (ps r * C) xs) more := by
  have hp := h.perm r hr
  have hm := mul_room hp h.len
  refine ⟨h.top.far ho h.neGM, h.lines.far ho h.neLM, hw, by rw [lay_len _ _ _ (by omega), h.len], h.cap1, h.cap2, h.perm, h.inj, ?_⟩
  show g.ls.set r xs = _
  rw [set_gtab, h.glen]
  refine gtab_eq fun i hi => ?_
  rw [part_lay room xs C (ps i) (ps r) R hp (h.perm i hi) h.len hx, h.lAt hi]
  by_cases e : i = r
  · rw [if_pos e, if_pos (by rw [e])]
  · rw [if_neg e, if_neg (fun q => e (h.inj i r hi hr q))]
theorem Grd.of (h : GridAt w G L M R C g cap ps room more) : Grd w G L M R C g := ⟨cap, ps, room, more, h⟩
theorem Grd.later (h : Grd w G L M R C g) (hb : Below w.heap.size w w') : Grd w' G L M R C g := by
  obtain ⟨cap, ps, room, more, h⟩ := h
  exact ⟨cap, ps, room, more, h.later hb⟩
theorem Grd.ltG (h : Grd w G L M R C g) : G < w.heap.size := by obtain ⟨_, _, _, _, h⟩ := h; exact h.top.lt
theorem Grd.ltL (h : Grd w G L M R C g) : L < w.heap.size := by obtain ⟨_, _, _, _, h⟩ := h; exact h.lines.lt
theorem Grd.ltM (h : Grd w G L M R C g) : M < w.heap.size := by obtain ⟨_, _, _, _, h⟩ := h; exact h.piece.lt
theorem Grd.glen (h : Grd w G L M R C g) : g.ls.length = R := by obtain ⟨_, _, _, _, h⟩ := h; exact h.glen
/-- Another grid's blocks turned. -/
theorem Grd.far {G' L' M' : Nat} (h : Grd w G L M R C g) (ht : Trn G' L' M' w w') (hG : G ≠ G' ∧ G ≠ L' ∧ G ≠ M') (hL : L ≠ G' ∧ L ≠ L' ∧ L ≠ M') (hM : M ≠ G' ∧ M ≠ L' ∧ M ≠ M') : Grd w' G L M R C g := by
  obtain ⟨cap, ps, room, more, h⟩ := h
  exact ⟨cap, ps, room, more, h.same (ht.block _ h.top.lt hG.1 hG.2.1 hG.2.2) (ht.block _ h.lines.lt hL.1 hL.2.1 hL.2.2) (ht.block _ h.piece.lt hM.1 hM.2.1 hM.2.2)⟩
theorem Grd.cursor (h : Grd w G L M R C g) : w.cell? ⟨G, 0, none⟩ = some (.int .i64 (g.row : Int)) ∧ w.cell? ⟨G, 1, none⟩ = some (.int .i64 (g.col : Int)) ∧ G < w.heap.size := by
  obtain ⟨cap, ps, room, more, h⟩ := h
  exact ⟨h.top.cell 0, h.top.cell 1, h.top.lt⟩
end

/-! ### the document's grid: rows of lines -/
/-- What stays of blocks of a type. -/
def Stays (t : TypeId) (w w' : World) : Prop := ∀ (b : Nat) (cur : Array Value), w.heap[b]? = some (Obj.cells cur t (0, 0)) → w'.heap[b]? = w.heap[b]?
theorem Stays.of_below {t : TypeId} {w w' : World} (h : Below w.heap.size w w') : Stays t w w' := fun b cur hb => h.block b (Array.getElem?_eq_some_iff.1 hb).1
theorem Stays.trans {t : TypeId} {w w' w'' : World} (h : Stays t w w') (k : Stays t w' w'') : Stays t w w'' := fun b cur hb => (k b cur ((h b cur hb).trans hb)).trans (h b cur hb)
theorem Stays.put {t t' : TypeId} {w : World} {g i : Nat} {l : List Value} {u : Value} (h : Whole w g t' l) (ht : t ≠ t') : Stays t w (w.setCell ⟨g, i, none⟩ u) := by
  intro b cur hb
  refine Below.heap_setCell _ _ _ _ ?_
  rintro rfl
  unfold Whole at h
  rw [hb] at h
  simp only [Option.some.injEq, Obj.cells.injEq] at h
  exact ht h.2.1
/-- A value is a slice that holds this line. -/
def RowOk (w : World) (x : Value) (z : List Cel) : Prop := ∃ A c, x = .slice A z.length c ∧ (A = none → c = 0) ∧ (z = [] ∨ ∃ b off cur, A = some ⟨b, off, none⟩ ∧ w.heap[b]? = some (Obj.cells cur 52 (0, 0)) ∧ ∀ j v, (flatC .i64 z)[j]? = some v → w.cell? ⟨b, off + j, none⟩ = some v)
/-- A slice of such values. -/
def Lns (w : World) (A : Option Addr) (ls : List (List Cel)) : Prop := ls = [] ∨ ∃ b cur, A = some ⟨b, 0, none⟩ ∧ w.heap[b]? = some (Obj.cells cur 73 (0, 0)) ∧ ∀ i, i < ls.length → ∃ x, cur[i]? = some x ∧ RowOk w x (lAt ls i)
section
variable {w w' : World} {A : Option Addr} {ls : List (List Cel)} {x : Value} {z : List Cel}
theorem RowOk.keep (h : RowOk w x z) (hb : Stays 52 w w') : RowOk w' x z := by
  obtain ⟨A, c, e, h0, hc⟩ := h
  refine ⟨A, c, e, h0, ?_⟩
  rcases hc with hc | ⟨b, off, cur, ha, hh, hc⟩
  · exact .inl hc
  · refine .inr ⟨b, off, cur, ha, (hb b cur hh).trans hh, fun j v hj => ?_⟩
    have := hc j v hj
    rw [cell_of_row _ b _ cur 52 (0, 0) hh] at this
    rw [cell_of_row _ b _ cur 52 (0, 0) ((hb b cur hh).trans hh), this]
theorem RowOk.one (h : RowOk w x z) : x.oneCell' = true := by obtain ⟨A, c, rfl, _⟩ := h; rfl
theorem RowOk.form (h : RowOk w x z) : ∃ A c, x = .slice A z.length c ∧ Cels .i64 w A z ∧ (A = none → c = 0) := by
  obtain ⟨A, c, e, h0, hc⟩ := h
  refine ⟨A, c, e, ?_, h0⟩
  rcases hc with hc | ⟨b, off, cur, ha, hh, hc⟩
  · exact .inl hc
  · exact .inr ⟨b, off, ha, hc⟩
theorem OwnC.rowOk {B : Nat} {w0 : World} (h : OwnC 52 .i64 B w0 w x z) : RowOk w x z := by
  rcases h.own.2 with ⟨rfl, h0⟩ | ⟨g, cap, cur, rfl, _, hh, hc, hm, _, _⟩
  · have : z = [] := List.eq_nil_of_length_eq_zero h0
    subst this
    exact ⟨none, 0, rfl, fun _ => rfl, .inl rfl⟩
  · refine ⟨_, cap, rfl, (fun h => by cases h), .inr ⟨g, 0, cur, rfl, hh, fun i v hi => ?_⟩⟩
    have := h.own.cells (g := g) rfl i v hi
    rwa [show (⟨g, 0, none⟩ : Addr).add i = ⟨g, 0 + i, none⟩ by unfold Addr.add; split <;> simp_all] at this
theorem Lns.keep (h : Lns w A ls) (hb : Stays 52 w w') (hl : Stays 73 w w') : Lns w' A ls := by
  rcases h with h | ⟨b, cur, ha, hh, hc⟩
  · exact .inl h
  · refine .inr ⟨b, cur, ha, (hl b cur hh).trans hh, fun i hi => ?_⟩
    obtain ⟨x, h1, h2⟩ := hc i hi
    exact ⟨x, h1, h2.keep hb⟩
theorem Lns.below (h : Lns w A ls) (hb : Below w.heap.size w w') : Lns w' A ls := h.keep (.of_below hb) (.of_below hb)
theorem Lns.alloc (h : Lns w A ls) (o : Obj) : Lns (w.alloc o) A ls := h.below ((Below.refl _ _).alloc (Nat.le_refl _) _)
theorem Lns.drewN (h : Lns w A ls) (n : Nat) : Lns (w.drewN n) A ls := h.below ((Below.refl _ _).drewN n)
theorem Lns.at (h : Lns w A ls) {i : Nat} (hi : i < ls.length) : ∃ b A' c', A = some ⟨b, 0, none⟩ ∧ b < w.heap.size ∧ w.cell? ⟨b, i, none⟩ = some (.slice A' (lAt ls i).length c') ∧ RowOk w (.slice A' (lAt ls i).length c') (lAt ls i) ∧ Cels .i64 w A' (lAt ls i) ∧ (A' = none → c' = 0) := by
  rcases h with rfl | ⟨b, cur, ha, hh, hc⟩
  · simp at hi
  · obtain ⟨x, h1, h2⟩ := hc i hi
    obtain ⟨A', c', rfl, h3, h4⟩ := h2.form
    refine ⟨b, A', c', ha, (Array.getElem?_eq_some_iff.1 hh).1, ?_, h2, h3, h4⟩
    rw [cell_of_row _ b _ cur 73 (0, 0) hh, h1]
end
section
variable {w w' : World} {G L M R C : Nat} {g : Gd}
/-- The document's rows lie apart from a program's grid. -/
theorem Grd.stays (h : Grd w G L M R C g) (ht : Trn G L M w w') {t : TypeId} (h1 : t ≠ 93) (h2 : t ≠ 41) (h3 : t ≠ 40) : Stays t w w' := by
  obtain ⟨cap, ps, room, more, h⟩ := h
  intro b cur hb
  have hw : Whole w b t cur.toList := by unfold Whole; simpa using hb
  exact ht.block b hw.lt (hw.ne h.top h1) (hw.ne h.lines h2) (hw.ne h.piece h3)
theorem Lns.turn {A : Option Addr} {ls : List (List Cel)} (h : Lns w A ls) (hg : Grd w G L M R C g) (ht : Trn G L M w w') : Lns w' A ls :=
  h.keep (hg.stays ht (by decide) (by decide) (by decide)) (hg.stays ht (by decide) (by decide) (by decide))
end

/-! ### rows of lines that a call makes and appends to -/
structure RwsC (B : Nat) (w wr : World) (v : Value) (zss : List (List Cel)) : Prop where
  row : ∃ xs : List Value, wr.ownsRow B 73 1 v zss.length xs ∧ ∀ (i : Nat) (x : Value) (z : List Cel), xs[i]? = some x → zss[i]? = some z → RowOk wr x z
  bel : Below B w wr
  le : B ≤ wr.heap.size
section
variable {B : Nat} {w wr w1 : World} {v : Value} {zss : List (List Cel)}
theorem RwsC.start (hB : B ≤ w.heap.size) : RwsC B w w (.slice none 0 0) [] := ⟨⟨[], World.ownsRow_nil _ _ _ _, fun i x z h => by simp at h⟩, Below.refl _ _, hB⟩
theorem RwsC.from0 (hB : B ≤ wr.heap.size) (hb : Below B w wr) : RwsC B w wr (.slice none 0 0) [] := ⟨⟨[], World.ownsRow_nil _ _ _ _, fun i x z h => by simp at h⟩, hb, hB⟩
theorem RwsC.later (h : RwsC B w wr v zss) (hb : Below wr.heap.size wr w1) : RwsC B w w1 v zss := by
  obtain ⟨xs, ho, hc⟩ := h.row
  refine ⟨⟨xs, ⟨ho.1, ?_⟩, fun i x z h1 h2 => (hc i x z h1 h2).keep (.of_below hb)⟩, h.bel.trans (hb.mono h.le), Nat.le_trans h.le hb.size⟩
  rcases ho.2 with h0 | ⟨g, cap, cur, hv, hB, hh, h1⟩
  · exact .inl h0
  · exact .inr ⟨g, cap, cur, hv, hB, by rw [hb.block g (Array.getElem?_eq_some_iff.1 hh).1, hh], h1⟩
theorem RwsC.alloc (h : RwsC B w wr v zss) (o : Obj) : RwsC B w (wr.alloc o) v zss := h.later ((Below.refl _ _).alloc (Nat.le_refl _) _)
/-- A store into a block of another type. -/
theorem RwsC.put (h : RwsC B w wr v zss) {g i : Nat} {t : TypeId} {l : List Value} {u : Value} (hw : Whole wr g t l) (h1 : t ≠ 52) (h2 : t ≠ 73) (hg : B ≤ g) : RwsC B w (wr.setCell ⟨g, i, none⟩ u) v zss := by
  obtain ⟨xs, ho, hc⟩ := h.row
  have hs1 : Stays 52 wr (wr.setCell ⟨g, i, none⟩ u) := Stays.put hw (Ne.symm h1)
  have hs2 : Stays 73 wr (wr.setCell ⟨g, i, none⟩ u) := Stays.put hw (Ne.symm h2)
  refine ⟨⟨xs, ⟨ho.1, ?_⟩, fun i x z h1 h2 => (hc i x z h1 h2).keep hs1⟩, h.bel.setCell (p := ⟨g, i, none⟩) hg u, by simpa [World.setCell] using h.le⟩
  rcases ho.2 with h0 | ⟨g', cap, cur, hv, hB, hh, h3⟩
  · exact .inl h0
  · exact .inr ⟨g', cap, cur, hv, hB, (hs2 g' cur hh).trans hh, h3⟩
theorem RwsC.form (h : RwsC B w wr v zss) : ∃ A cap, v = .slice A zss.length cap ∧ zss.length ≤ cap ∧ cap ≤ maxLen ∧ (A = none → cap = 0) ∧ Lns wr A zss := by
  obtain ⟨xs, ho, hc⟩ := h.row
  have hxl : xs.length = zss.length := by have := ho.1; omega
  rcases ho.2 with ⟨rfl, h0⟩ | ⟨g, cap, cur, rfl, _, hh, hcap, hm, hcs, htake⟩
  · have : zss = [] := List.eq_nil_of_length_eq_zero h0
    subst this
    exact ⟨none, 0, rfl, Nat.le_refl _, Nat.zero_le _, (fun _ => rfl), .inl rfl⟩
  · refine ⟨_, cap, rfl, hcap, hm, (fun h => by cases h), .inr ⟨g, cur, rfl, hh, fun i hi => ?_⟩⟩
    have hx : xs[i]? = some xs[i] := List.getElem?_eq_getElem (by omega)
    refine ⟨xs[i], ?_, hc i _ _ hx (get_lAt zss i hi)⟩
    have := ho.cellAt i (by omega)
    rw [cell_of_row _ g i cur 73 (0, 0) hh, hx] at this
    exact this
end
theorem elemRC : ElemR Tryz.prog 30 73 := ⟨Tryz.underlying30, by kernel_rfl⟩
theorem elemRL : ElemR Tryz.prog 89 41 := ⟨Tryz.underlying89, by kernel_rfl⟩
/-- 'append(rows, x)', x in a block of its own. -/
theorem wpList_pushL {ops : Array Oper} {rest : List Oper} {o : Oper} {a : Act} {Q : Exit → Act → World → Prop} {B : Nat} {w wr : World} {v x : Value} {zss : List (List Cel)} {z : List Cel}
    (hgd : Region.wanted o (yielded ops a.tmps) = true) (s y : Operand) (ho : o.op = .call { callee := .builtin .append, args := #[s, y], argTypes := #[30, 30] })
    (hs : a.eval s = v) (hy : a.eval y = .slice (some ⟨wr.heap.size, 0, none⟩) 1 1) (hown : RwsC B w wr v zss) (hx : RowOk wr x z) (hlen : zss.length ≤ 1000000)
    (h : ∀ v' w1, RwsC B w w1 v' (zss ++ [z]) → (∀ q t l, t ≠ 73 → Whole wr q t l → Whole w1 q t l) → wpList Tryz.prog ops Q rest (a.put o.dst v') w1) : wpList Tryz.prog ops Q (o :: rest) a (wr.alloc (.cells #[x] 73)) := by
  obtain ⟨i0, hi, hz0, hz1, hz2⟩ := info_parts elemRC.info
  obtain ⟨xs, hrow, hcl⟩ := (hown.alloc (.cells #[x] 73)).row
  have hxl : xs.length = zss.length := by have := hrow.1; omega
  have hle := (hown.alloc (.cells #[x] 73)).le
  refine wpList_want hgd fun K hK => ?_
  refine wp_append_own _ s y 30 ho B 73 i0 (.slice none 0 0) 1 24 elemRC.under hi hz0 hz1 hz2 rfl (by decide) v zss.length xs hs hrow ⟨wr.heap.size, 0, none⟩ 1 1 [x] hy rfl (cell_one_new _ _ _) (by intro u hu; simp at hu; subst hu; exact hx.one)
    (by unfold maxLen; omega) (by omega) hle ?_
  intro v' w1 h1 hg _
  have far : ∀ t, t ≠ 73 → Stays t (wr.alloc (.cells #[x] 73)) w1 := by
    intro t ht g cur hh
    refine hg.block g (Array.getElem?_eq_some_iff.1 hh).1 ?_
    intro q
    rcases hrow.2 with ⟨rfl, _⟩ | ⟨g2, cap, cur2, rfl, _, hh2, _⟩
    · cases q
    · have : g = g2 := by simpa [Value.ownBlock] using q
      subst this
      rw [hh] at hh2
      simp only [Option.some.injEq, Obj.cells.injEq] at hh2
      exact ht hh2.2.1
  refine hK _ _ (h v' w1 ⟨⟨xs ++ [x], by simpa using h1, ?_⟩, (hown.alloc _).bel.grown hg hle (own_ge hrow), Nat.le_trans hle hg.size⟩ ?_)
  · intro i y' z' h2 h3
    by_cases hi' : i < zss.length
    · rw [List.getElem?_append_left (by omega)] at h2
      rw [List.getElem?_append_left hi'] at h3
      exact (hcl i y' z' h2 h3).keep (far _ (by decide))
    · rw [List.getElem?_append_right (by omega)] at h2 h3
      rw [hxl] at h2
      cases hq : i - zss.length with
      | zero =>
        rw [hq] at h2 h3
        simp at h2 h3
        subst h2 h3
        exact (hx.keep (.of_below ((Below.refl _ _).alloc (Nat.le_refl _) _))).keep (far _ (by decide))
      | succ q => rw [hq] at h2; simp at h2
  · intro q t l ht hw
    have hw' := hw.alloc (.cells #[x] 73)
    exact hw'.same (far t ht q l.toArray (by simpa [Whole] using hw'))

/-! ### a struct of the document's returned -/
theorem retG {R : Ending → World → Prop} {a : Act} {w : World} {fn : Func} {s : Nat} {q : Nat} {x0 x1 x2 : Value} (hr : fn.results = #[.cell s 32]) (h4 : a.tmps.getD s undef = .pointer (some ⟨q, 0, none⟩)) (hd : a.defers = [])
    (hw : Whole w q 32 [x0, x1, x2]) (hR : R (.returned (.agg #[x0, x1, x2])) w) : bodyPost Tryz.prog fn R .ret a w := by
  have c0 : w.cell? ⟨q, 0, none⟩ = some x0 := hw.cell 0
  have c1 : w.cell? ⟨q, 1, none⟩ = some x1 := hw.cell 1
  have c2 : w.cell? ⟨q, 2, none⟩ = some x2 := hw.cell 2
  clear hw
  rw [Array.getD_eq_getD_getElem?] at h4
  exact bodyPost_ret (v := .agg #[x0, x1, x2]) (by simp [results, hr, h4, c0, c1, c2, go_sem]) hd hR
theorem retG2 {R : Ending → World → Prop} {a : Act} {w : World} {fn : Func} {s u : Nat} {q : Nat} {x0 x1 x2 v : Value} (hr : fn.results = #[.cell s 32, .tmp u]) (h4 : a.tmps.getD s undef = .pointer (some ⟨q, 0, none⟩)) (h5 : a.tmps.getD u undef = v) (hd : a.defers = [])
    (hw : Whole w q 32 [x0, x1, x2]) (hR : R (.returned (.tuple #[.agg #[x0, x1, x2], v])) w) : bodyPost Tryz.prog fn R .ret a w := by
  have c0 : w.cell? ⟨q, 0, none⟩ = some x0 := hw.cell 0
  have c1 : w.cell? ⟨q, 1, none⟩ = some x1 := hw.cell 1
  have c2 : w.cell? ⟨q, 2, none⟩ = some x2 := hw.cell 2
  clear hw
  rw [Array.getD_eq_getD_getElem?] at h4 h5
  exact bodyPost_ret (v := .tuple #[.agg #[x0, x1, x2], v]) (by simp [results, hr, h4, h5, c0, c1, c2, go_sem]) hd hR
theorem put3 {w : World} {q : Nat} {t : TypeId} {y0 y1 y2 : Value} (hw : Whole w q t [y0, y1, y2]) (x0 x1 x2 : Value) : Whole (((w.setCell ⟨q, 0, none⟩ x0).setCell ⟨q, 1, none⟩ x1).setCell ⟨q, 2, none⟩ x2) q t [x0, x1, x2] := ((hw.put 0 x0).put 1 x1).put 2 x2
theorem below_put3 {B : Nat} {W w : World} {q : Nat} (h : Below B W w) (hq : B ≤ q) (x0 x1 x2 : Value) : Below B W (((w.setCell ⟨q, 0, none⟩ x0).setCell ⟨q, 1, none⟩ x1).setCell ⟨q, 2, none⟩ x2) :=
  ((h.setCell (p := ⟨q, 0, none⟩) hq x0).setCell (p := ⟨q, 1, none⟩) hq x1).setCell (p := ⟨q, 2, none⟩) hq x2
end Go.Proofs.YtiifeniijcnahaaGreatDoor
