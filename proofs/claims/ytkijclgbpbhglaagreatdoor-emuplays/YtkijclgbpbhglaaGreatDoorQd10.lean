/-
  Contracts and plain mathematics of GMem, GBase, GMove, LRight.
-/
import Derived.Test.YtkijclgbpbhglaaGreatDoorQd8
import Derived.Test.YtkijclgbpbhglaaGreatDoorQd9
import Derived.Test.YtkijclgbpbhglaaGreatDoorQd4
import Derived.Test.YtkijclgbpbhglaaGreatDoorQd7
import Derived.Test.YtkijclgbpbhglaaGreatDoorQd5
import Derived.Test.YtkijclgbpbhglaaGreatDoorQd2
import Derived.Test.YtkijclgbpbhglaaGreatDoorQd3
import Derived.Test.YtkijclgbpbhglaaGreatDoorQd6
namespace Go.Proofs.YtkijclgbpbhglaaGreatDoor
set_option maxRecDepth 100000
set_option linter.unusedVariables false
set_option maxHeartbeats 8000000
section
open Go.ChangeShapes Go.WideShapes Go.ChangeAt Go.RowKit
theorem Whole.ne {w : World} {a b : Nat} {t t' : TypeId} {l l' : List Value} (h : Whole w a t l) (k : Whole w b t' l') (ht : t ≠ t') : a ≠ b := by
 rintro rfl
 unfold Whole at h k
 rw [h] at k
 simp only [Option.some.injEq, Obj.cells.injEq] at k
 exact ht k.2.1
theorem Whole.same {w w' : World} {g : Nat} {t : TypeId} {l : List Value} (h : Whole w g t l) (e : w'.heap[g]? = w.heap[g]?) : Whole w' g t l := e.trans h
structure Trn (G L M : Nat) (w w' : World) : Prop where
 os : w'.os = w.os
 tape : w'.tape = w.tape
 output : w'.output = w.output
 size : w.heap.size ≤ w'.heap.size
 block : ∀ i, i < w.heap.size → i ≠ G → i ≠ L → i ≠ M → w'.heap[i]? = w.heap[i]?
section
variable {G L M L' : Nat} {w w' w'' : World}
theorem Trn.refl : Trn G L M w w := ⟨rfl, rfl, rfl, Nat.le_refl _, fun _ _ _ _ _ => rfl⟩
theorem Trn.trans (h : Trn G L M w w') (k : Trn G L' M w' w'') (hL : L' = L ∨ w.heap.size ≤ L') : Trn G L M w w'' :=
 ⟨k.os.trans h.os, k.tape.trans h.tape, k.output.trans h.output, Nat.le_trans h.size k.size, fun i hi h1 h2 h3 => (k.block i (Nat.lt_of_lt_of_le hi h.size) h1 (by rcases hL with rfl | q; exact h2; omega) h3).trans (h.block i hi h1 h2 h3)⟩
theorem Trn.of_below (h : Below w.heap.size w w') : Trn G L M w w' := ⟨h.os, h.tape, h.output, h.size, fun i hi _ _ _ => h.block i hi⟩
theorem Trn.of_onlyM (h : Only M w w') : Trn G L M w w' := ⟨h.os, h.tape, h.output, h.size, fun i hi _ _ h3 => h.block i hi (by simpa using h3)⟩
theorem Trn.of_onlyG (h : Only G w w') : Trn G L M w w' := ⟨h.os, h.tape, h.output, h.size, fun i hi h1 _ _ => h.block i hi (by simpa using h1)⟩
theorem Trn.below {B : Nat} {a : World} (h : Trn G L M w w') (hb : Below B a w) (hB : B ≤ w.heap.size) (hG : B ≤ G) (hL : B ≤ L) (hM : B ≤ M) : Below B a w' :=
 ⟨h.os.trans hb.os, h.tape.trans hb.tape, h.output.trans hb.output, Nat.le_trans hb.size h.size, fun i hi => (h.block i (by omega) (by omega) (by omega) (by omega)).trans (hb.block i hi)⟩
theorem Trn.whole (h : Trn G L M w w') {g : Nat} {t : TypeId} {l : List Value} (hw : Whole w g t l) (h1 : g ≠ G) (h2 : g ≠ L) (h3 : g ≠ M) : Whole w' g t l := hw.same (h.block g hw.lt h1 h2 h3)
end
def rowV (M C : Nat) (ps : Nat → Nat) (i : Nat) : Value := .slice (some ⟨M, ps i * C * 7, none⟩) C C
def rowsV (M C : Nat) (ps : Nat → Nat) (R : Nat) : List Value := (List.range R).map (rowV M C ps)
theorem rowsV_len (M C : Nat) (ps : Nat → Nat) (R : Nat) : (rowsV M C ps R).length = R := by simp [rowsV]
theorem rowsV_get (M C : Nat) (ps : Nat → Nat) (R i : Nat) (h : i < R) : (rowsV M C ps R)[i]? = some (rowV M C ps i) := by simp [rowsV, h]
def partC (room : List Cel) (C q : Nat) : List Cel := (room.drop (q * C)).take C
theorem part_tab (room : List Cel) (C q : Nat) (h : q * C + C ≤ room.length) : partC room C q = tab C (fun i => cAt room (q * C + i)) := by
 refine tab_is (by unfold partC; rw [List.length_take, List.length_drop]; omega) fun i hi => ?_
 unfold partC cAt
 simp [hi]
theorem part_len (room : List Cel) (C q : Nat) (h : q * C + C ≤ room.length) : (partC room C q).length = C := by rw [part_tab room C q h, tab_len]
theorem mul_room {q R C n : Nat} (hq : q < R) (hn : n = R * C) : q * C + C ≤ n := by
 have : (q + 1) * C ≤ R * C := Nat.mul_le_mul_right _ hq
 rw [Nat.add_mul, Nat.one_mul] at this
 omega
theorem part_lay (room xs : List Cel) (C q r R : Nat) (hr : r < R) (hq : q < R) (hn : room.length = R * C) (hx : xs.length = C) : partC (layC room (r * C) xs) C q = if q = r then xs else partC room C q := by
 have h1 := mul_room hr hn
 have h2 := mul_room hq hn
 have hl : (layC room (r * C) xs).length = room.length := lay_len room (r * C) xs (by omega)
 rw [part_tab _ C q (by omega), lay_tab room (r * C) xs (by omega)]
 have key : ∀ i, i < C → cAt (tab room.length fun i => if r * C ≤ i ∧ i < r * C + xs.length then cAt xs (i - r * C) else cAt room i) (q * C + i) = if r * C ≤ q * C + i ∧ q * C + i < r * C + C then cAt xs (q * C + i - r * C) else cAt room (q * C + i) := by
  intro i hi
  rw [tab_cAt _ _ _ (by omega), hx]
 rw [tab_eq key]
 split
 ·rename_i e
  subst e
  refine (tab_is hx fun i hi => ?_).symm
  rw [if_pos (by omega), show q * C + i - q * C = i by omega]
 ·rename_i e
  rw [part_tab room C q h2]
  refine tab_eq fun i hi => ?_
  rw [if_neg ?_]
  rcases Nat.lt_or_gt_of_ne e with g | g
  ·have := mul_room (C := C) g rfl
   omega
  ·have := mul_room (C := C) g rfl
   omega
structure GridAt (w : World) (G L M R C : Nat) (g : Gd) (cap : Nat) (ps : Nat → Nat) (room : List Cel) (more : List Value) : Prop where
 top : Whole w G 113 [.int .i64 g.row, .int .i64 g.col, .slice (some ⟨L, 0, none⟩) R cap]
 lines : Whole w L 97 (rowsV M C ps R ++ more)
 piece : Whole w M 73 (flatC .i32 room)
 len : room.length = R * C
 cap1 : R ≤ cap
 cap2 : cap ≤ maxLen
 perm : ∀ i, i < R → ps i < R
 inj : ∀ i j, i < R → j < R → ps i = ps j → i = j
 ls : g.ls = gtab R (fun i => partC room C (ps i))
def Grd (w : World) (G L M R C : Nat) (g : Gd) : Prop := ∃ cap ps room more, GridAt w G L M R C g cap ps room more
section
variable {w w' : World} {G L M R C : Nat} {g : Gd} {cap : Nat} {ps : Nat → Nat} {room : List Cel} {more : List Value}
theorem GridAt.neGL (h : GridAt w G L M R C g cap ps room more) : G ≠ L := h.top.ne h.lines (by decide)
theorem GridAt.neGM (h : GridAt w G L M R C g cap ps room more) : G ≠ M := h.top.ne h.piece (by decide)
theorem GridAt.neLM (h : GridAt w G L M R C g cap ps room more) : L ≠ M := h.lines.ne h.piece (by decide)
theorem GridAt.row (h : GridAt w G L M R C g cap ps room more) {i : Nat} (hi : i < R) : w.cell? ⟨L, i, none⟩ = some (.slice (some ⟨M, ps i * C * 7, none⟩) C C) := by
 rw [h.lines.cell, List.getElem?_append_left (by rw [rowsV_len]; exact hi), rowsV_get _ _ _ _ _ hi]
 rfl
theorem GridAt.lAt (h : GridAt w G L M R C g cap ps room more) {i : Nat} (hi : i < R) : lAt g.ls i = partC room C (ps i) := by rw [h.ls, gtab_lAt _ _ _ hi]
theorem GridAt.lenAt (h : GridAt w G L M R C g cap ps room more) {i : Nat} (hi : i < R) : (Proofs.YtkijclgbpbhglaaGreatDoor.lAt g.ls i).length = C := by rw [h.lAt hi]; exact part_len _ _ _ (mul_room (h.perm i hi) h.len)
theorem GridAt.glen (h : GridAt w G L M R C g cap ps room more) : g.ls.length = R := by rw [h.ls, gtab_len]
theorem GridAt.cels (h : GridAt w G L M R C g cap ps room more) {i : Nat} (hi : i < R) : Cels .i32 w (some ⟨M, ps i * C * 7, none⟩) (Proofs.YtkijclgbpbhglaaGreatDoor.lAt g.ls i) := by
 refine .inr ⟨M, ps i * C * 7, rfl, fun j v hj => ?_⟩
 rw [h.lAt hi] at hj
 unfold partC at hj
 rw [flatC_take, List.getElem?_take] at hj
 split at hj
 ·rw [flatC_drop, List.getElem?_drop] at hj
  rw [h.piece.cell, hj]
 ·cases hj
theorem GridAt.same (h : GridAt w G L M R C g cap ps room more) (hG : w'.heap[G]? = w.heap[G]?) (hL : w'.heap[L]? = w.heap[L]?) (hM : w'.heap[M]? = w.heap[M]?) : GridAt w' G L M R C g cap ps room more :=
 ⟨h.top.same hG, h.lines.same hL, h.piece.same hM, h.len, h.cap1, h.cap2, h.perm, h.inj, h.ls⟩
theorem GridAt.later (h : GridAt w G L M R C g cap ps room more) (hb : Below w.heap.size w w') : GridAt w' G L M R C g cap ps room more :=
 h.same (hb.block _ h.top.lt) (hb.block _ h.lines.lt) (hb.block _ h.piece.lt)
theorem GridAt.lay (h : GridAt w G L M R C g cap ps room more) {r : Nat} (hr : r < R) (xs : List Cel) (hx : xs.length = C) (ho : Only M w w') (hw : Whole w' M 73 (flatC .i32 (layC room (ps r * C) xs))) :
  GridAt w' G L M R C { g with ls := g.ls.set r xs } cap ps (layC room (ps r * C) xs) more := by
 have hp := h.perm r hr
 have hm := mul_room hp h.len
 refine ⟨h.top.far ho h.neGM, h.lines.far ho h.neLM, hw, by rw [lay_len _ _ _ (by omega), h.len], h.cap1, h.cap2, h.perm, h.inj, ?_⟩
 show g.ls.set r xs = _
 rw [set_gtab, h.glen]
 refine gtab_eq fun i hi => ?_
 rw [part_lay room xs C (ps i) (ps r) R hp (h.perm i hi) h.len hx, h.lAt hi]
 by_cases e : i = r
 ·rw [if_pos e, if_pos (by rw [e])]
 ·rw [if_neg e, if_neg (fun q => e (h.inj i r hi hr q))]
theorem Grd.of (h : GridAt w G L M R C g cap ps room more) : Grd w G L M R C g := ⟨cap, ps, room, more, h⟩
theorem Grd.later (h : Grd w G L M R C g) (hb : Below w.heap.size w w') : Grd w' G L M R C g := by
 obtain ⟨cap, ps, room, more, h⟩ := h
 exact ⟨cap, ps, room, more, h.later hb⟩
theorem Grd.ltG (h : Grd w G L M R C g) : G < w.heap.size := by obtain ⟨_, _, _, _, h⟩ := h; exact h.top.lt
theorem Grd.ltL (h : Grd w G L M R C g) : L < w.heap.size := by obtain ⟨_, _, _, _, h⟩ := h; exact h.lines.lt
theorem Grd.ltM (h : Grd w G L M R C g) : M < w.heap.size := by obtain ⟨_, _, _, _, h⟩ := h; exact h.piece.lt
theorem Grd.glen (h : Grd w G L M R C g) : g.ls.length = R := by obtain ⟨_, _, _, _, h⟩ := h; exact h.glen
theorem Grd.far {G' L' M' : Nat} (h : Grd w G L M R C g) (ht : Trn G' L' M' w w') (hG : G ≠ G' ∧ G ≠ L' ∧ G ≠ M') (hL : L ≠ G' ∧ L ≠ L' ∧ L ≠ M') (hM : M ≠ G' ∧ M ≠ L' ∧ M ≠ M') : Grd w' G L M R C g := by
 obtain ⟨cap, ps, room, more, h⟩ := h
 exact ⟨cap, ps, room, more, h.same (ht.block _ h.top.lt hG.1 hG.2.1 hG.2.2) (ht.block _ h.lines.lt hL.1 hL.2.1 hL.2.2) (ht.block _ h.piece.lt hM.1 hM.2.1 hM.2.2)⟩
theorem Grd.cursor (h : Grd w G L M R C g) : w.cell? ⟨G, 0, none⟩ = some (.int .i64 g.row) ∧ w.cell? ⟨G, 1, none⟩ = some (.int .i64 g.col) ∧ G < w.heap.size := by
 obtain ⟨cap, ps, room, more, h⟩ := h
 exact ⟨h.top.cell 0, h.top.cell 1, h.top.lt⟩
end
def Stays (t : TypeId) (w w' : World) : Prop := ∀ (b : Nat) (cur : Array Value), w.heap[b]? = some (Obj.cells cur t (0, 0)) → w'.heap[b]? = w.heap[b]?
theorem Stays.of_below {t : TypeId} {w w' : World} (h : Below w.heap.size w w') : Stays t w w' := fun b cur hb => h.block b (Array.getElem?_eq_some_iff.1 hb).1
theorem Stays.trans {t : TypeId} {w w' w'' : World} (h : Stays t w w') (k : Stays t w' w'') : Stays t w w'' := fun b cur hb => (k b cur ((h b cur hb).trans hb)).trans (h b cur hb)
theorem Stays.put {t t' : TypeId} {w : World} {g i : Nat} {l : List Value} {u : Value} (h : Whole w g t' l) (ht : t ≠ t') : Stays t w (w.setCell ⟨g, i, none⟩ u) := by
 intro b cur hb
 refine Below.heap_setCell _ _ _ _ ?_
 rintro rfl
 unfold Whole at h
 rw [hb] at h
 simp only [Option.some.injEq, Obj.cells.injEq] at h
 exact ht h.2.1
def RowOk (w : World) (x : Value) (z : List Cel) : Prop := ∃ A c, x = .slice A z.length c ∧ (A = none → c = 0) ∧ (z = [] ∨ ∃ b off cur, A = some ⟨b, off, none⟩ ∧ w.heap[b]? = some (Obj.cells cur 166 (0, 0)) ∧ ∀ j v, (flatC .i64 z)[j]? = some v → w.cell? ⟨b, off + j, none⟩ = some v)
def Lns (w : World) (A : Option Addr) (ls : List (List Cel)) : Prop := ls = [] ∨ ∃ b cur, A = some ⟨b, 0, none⟩ ∧ w.heap[b]? = some (Obj.cells cur 132 (0, 0)) ∧ ∀ i, i < ls.length → ∃ x, cur[i]? = some x ∧ RowOk w x (lAt ls i)
section
variable {w w' : World} {A : Option Addr} {ls : List (List Cel)} {x : Value} {z : List Cel}
theorem RowOk.keep (h : RowOk w x z) (hb : Stays 166 w w') : RowOk w' x z := by
 obtain ⟨A, c, e, h0, hc⟩ := h
 refine ⟨A, c, e, h0, ?_⟩
 rcases hc with hc | ⟨b, off, cur, ha, hh, hc⟩
 ·exact .inl hc
 ·refine .inr ⟨b, off, cur, ha, (hb b cur hh).trans hh, fun j v hj => ?_⟩
  have := hc j v hj
  rw [cell_of_row _ b _ cur 166 (0, 0) hh] at this
  rw [cell_of_row _ b _ cur 166 (0, 0) ((hb b cur hh).trans hh), this]
theorem RowOk.one (h : RowOk w x z) : x.oneCell' = true := by obtain ⟨A, c, rfl, _⟩ := h; rfl
theorem RowOk.form (h : RowOk w x z) : ∃ A c, x = .slice A z.length c ∧ Cels .i64 w A z ∧ (A = none → c = 0) := by
 obtain ⟨A, c, e, h0, hc⟩ := h
 refine ⟨A, c, e, ?_, h0⟩
 rcases hc with hc | ⟨b, off, cur, ha, hh, hc⟩
 ·exact .inl hc
 ·exact .inr ⟨b, off, ha, hc⟩
theorem OwnC.rowOk {B : Nat} {w0 : World} (h : OwnC 166 .i64 B w0 w x z) : RowOk w x z := by
 rcases h.own.2 with ⟨rfl, h0⟩ | ⟨g, cap, cur, rfl, _, hh, hc, hm, _, _⟩
 ·have : z = [] := List.eq_nil_of_length_eq_zero h0
  subst this
  exact ⟨none, 0, rfl, fun _ => rfl, .inl rfl⟩
 ·refine ⟨_, cap, rfl, (fun h => by cases h), .inr ⟨g, 0, cur, rfl, hh, fun i v hi => ?_⟩⟩
  have := h.own.cells (g := g) rfl i v hi
  rwa [show (⟨g, 0, none⟩ : Addr).add i = ⟨g, 0 + i, none⟩ by unfold Addr.add; split <;> simp_all] at this
theorem Lns.keep (h : Lns w A ls) (hb : Stays 166 w w') (hl : Stays 132 w w') : Lns w' A ls := by
 rcases h with h | ⟨b, cur, ha, hh, hc⟩
 ·exact .inl h
 ·refine .inr ⟨b, cur, ha, (hl b cur hh).trans hh, fun i hi => ?_⟩
  obtain ⟨x, h1, h2⟩ := hc i hi
  exact ⟨x, h1, h2.keep hb⟩
theorem Lns.below (h : Lns w A ls) (hb : Below w.heap.size w w') : Lns w' A ls := h.keep (.of_below hb) (.of_below hb)
theorem Lns.alloc (h : Lns w A ls) (o : Obj) : Lns (w.alloc o) A ls := h.below ((Below.refl _ _).alloc (Nat.le_refl _) _)
theorem Lns.drewN (h : Lns w A ls) (n : Nat) : Lns (w.drewN n) A ls := h.below ((Below.refl _ _).drewN n)
theorem Lns.at (h : Lns w A ls) {i : Nat} (hi : i < ls.length) : ∃ b A' c', A = some ⟨b, 0, none⟩ ∧ b < w.heap.size ∧ w.cell? ⟨b, i, none⟩ = some (.slice A' (lAt ls i).length c') ∧ RowOk w (.slice A' (lAt ls i).length c') (lAt ls i) ∧ Cels .i64 w A' (lAt ls i) ∧ (A' = none → c' = 0) := by
 rcases h with rfl | ⟨b, cur, ha, hh, hc⟩
 ·simp at hi
 ·obtain ⟨x, h1, h2⟩ := hc i hi
  obtain ⟨A', c', rfl, h3, h4⟩ := h2.form
  refine ⟨b, A', c', ha, (Array.getElem?_eq_some_iff.1 hh).1, ?_, h2, h3, h4⟩
  rw [cell_of_row _ b _ cur 132 (0, 0) hh, h1]
end
section
variable {w w' : World} {G L M R C : Nat} {g : Gd}
theorem Grd.stays (h : Grd w G L M R C g) (ht : Trn G L M w w') {t : TypeId} (h1 : t ≠ 113) (h2 : t ≠ 97) (h3 : t ≠ 73) : Stays t w w' := by
 obtain ⟨cap, ps, room, more, h⟩ := h
 intro b cur hb
 have hw : Whole w b t cur.toList := by unfold Whole; simpa using hb
 exact ht.block b hw.lt (hw.ne h.top h1) (hw.ne h.lines h2) (hw.ne h.piece h3)
theorem Lns.turn {A : Option Addr} {ls : List (List Cel)} (h : Lns w A ls) (hg : Grd w G L M R C g) (ht : Trn G L M w w') : Lns w' A ls :=
 h.keep (hg.stays ht (by decide) (by decide) (by decide)) (hg.stays ht (by decide) (by decide) (by decide))
end
structure RwsC (B : Nat) (w wr : World) (v : Value) (zss : List (List Cel)) : Prop where
 row : ∃ xs : List Value, wr.ownsRow B 132 1 v zss.length xs ∧ ∀ (i : Nat) (x : Value) (z : List Cel), xs[i]? = some x → zss[i]? = some z → RowOk wr x z
 bel : Below B w wr
 le : B ≤ wr.heap.size
section
variable {B : Nat} {w wr w1 : World} {v : Value} {zss : List (List Cel)}
theorem RwsC.start (hB : B ≤ w.heap.size) : RwsC B w w (.slice none 0 0) [] := ⟨⟨[], World.ownsRow_nil _ _ _ _, fun i x z h => by simp at h⟩, Below.refl _ _, hB⟩
theorem RwsC.from0 (hB : B ≤ wr.heap.size) (hb : Below B w wr) : RwsC B w wr (.slice none 0 0) [] := ⟨⟨[], World.ownsRow_nil _ _ _ _, fun i x z h => by simp at h⟩, hb, hB⟩
theorem RwsC.later (h : RwsC B w wr v zss) (hb : Below wr.heap.size wr w1) : RwsC B w w1 v zss := by
 obtain ⟨xs, ho, hc⟩ := h.row
 refine ⟨⟨xs, ⟨ho.1, ?_⟩, fun i x z h1 h2 => (hc i x z h1 h2).keep (.of_below hb)⟩, h.bel.trans (hb.mono h.le), Nat.le_trans h.le hb.size⟩
 rcases ho.2 with h0 | ⟨g, cap, cur, hv, hB, hh, h1⟩
 ·exact .inl h0
 ·exact .inr ⟨g, cap, cur, hv, hB, by rw [hb.block g (Array.getElem?_eq_some_iff.1 hh).1, hh], h1⟩
theorem RwsC.alloc (h : RwsC B w wr v zss) (o : Obj) : RwsC B w (wr.alloc o) v zss := h.later ((Below.refl _ _).alloc (Nat.le_refl _) _)
theorem RwsC.put (h : RwsC B w wr v zss) {g i : Nat} {t : TypeId} {l : List Value} {u : Value} (hw : Whole wr g t l) (h1 : t ≠ 166) (h2 : t ≠ 132) (hg : B ≤ g) : RwsC B w (wr.setCell ⟨g, i, none⟩ u) v zss := by
 obtain ⟨xs, ho, hc⟩ := h.row
 have hs1 : Stays 166 wr (wr.setCell ⟨g, i, none⟩ u) := Stays.put hw (Ne.symm h1)
 have hs2 : Stays 132 wr (wr.setCell ⟨g, i, none⟩ u) := Stays.put hw (Ne.symm h2)
 refine ⟨⟨xs, ⟨ho.1, ?_⟩, fun i x z h1 h2 => (hc i x z h1 h2).keep hs1⟩, h.bel.setCell (p := ⟨g, i, none⟩) hg u, by simpa [World.setCell] using h.le⟩
 rcases ho.2 with h0 | ⟨g', cap, cur, hv, hB, hh, h3⟩
 ·exact .inl h0
 ·exact .inr ⟨g', cap, cur, hv, hB, (hs2 g' cur hh).trans hh, h3⟩
theorem RwsC.form (h : RwsC B w wr v zss) : ∃ A cap, v = .slice A zss.length cap ∧ zss.length ≤ cap ∧ cap ≤ maxLen ∧ (A = none → cap = 0) ∧ Lns wr A zss := by
 obtain ⟨xs, ho, hc⟩ := h.row
 have hxl : xs.length = zss.length := by have := ho.1; omega
 rcases ho.2 with ⟨rfl, h0⟩ | ⟨g, cap, cur, rfl, _, hh, hcap, hm, hcs, htake⟩
 ·have : zss = [] := List.eq_nil_of_length_eq_zero h0
  subst this
  exact ⟨none, 0, rfl, Nat.le_refl _, Nat.zero_le _, (fun _ => rfl), .inl rfl⟩
 ·refine ⟨_, cap, rfl, hcap, hm, (fun h => by cases h), .inr ⟨g, cur, rfl, hh, fun i hi => ?_⟩⟩
  have hx : xs[i]? = some xs[i] := List.getElem?_eq_getElem (by omega)
  refine ⟨xs[i], ?_, hc i _ _ hx (get_lAt zss i hi)⟩
  have := ho.cellAt i (by omega)
  rw [cell_of_row _ g i cur 132 (0, 0) hh, hx] at this
  exact this
end
theorem elemRC : ElemR Tryz.prog 30 132 := ⟨Tryz.underlying30, by kernel_rfl⟩
theorem elemRL : ElemR Tryz.prog 109 97 := ⟨Tryz.underlying109, by kernel_rfl⟩
theorem wpList_pushL {ops : Array Oper} {rest : List Oper} {o : Oper} {a : Act} {Q : Exit → Act → World → Prop} {B : Nat} {w wr : World} {v x : Value} {zss : List (List Cel)} {z : List Cel}
  (hgd : Region.wanted o (yielded ops a.tmps) = true) (s y : Operand) (ho : o.op = .call { callee := .builtin .append, args := #[s, y], argTypes := #[30, 30] })
  (hs : a.eval s = v) (hy : a.eval y = .slice (some ⟨wr.heap.size, 0, none⟩) 1 1) (hown : RwsC B w wr v zss) (hx : RowOk wr x z) (hlen : zss.length ≤ 1000000)
  (h : ∀ v' w1, RwsC B w w1 v' (zss ++ [z]) → (∀ q t l, t ≠ 132 → Whole wr q t l → Whole w1 q t l) → wpList Tryz.prog ops Q rest (a.put o.dst v') w1) : wpList Tryz.prog ops Q (o :: rest) a (wr.alloc (.cells #[x] 132)) := by
 obtain ⟨i0, hi, hz0, hz1, hz2⟩ := info_parts elemRC.info
 obtain ⟨xs, hrow, hcl⟩ := (hown.alloc (.cells #[x] 132)).row
 have hxl : xs.length = zss.length := by have := hrow.1; omega
 have hle := (hown.alloc (.cells #[x] 132)).le
 refine wpList_want hgd fun K hK => ?_
 refine wp_append_own _ s y 30 ho B 132 i0 (.slice none 0 0) 1 24 elemRC.under hi hz0 hz1 hz2 rfl (by decide) v zss.length xs hs hrow ⟨wr.heap.size, 0, none⟩ 1 1 [x] hy rfl (cell_one_new _ _ _) (by intro u hu; simp at hu; subst hu; exact hx.one)
  (by unfold maxLen; omega) (by omega) hle ?_
 intro v' w1 h1 hg _
 have far : ∀ t, t ≠ 132 → Stays t (wr.alloc (.cells #[x] 132)) w1 := by
  intro t ht g cur hh
  refine hg.block g (Array.getElem?_eq_some_iff.1 hh).1 ?_
  intro q
  rcases hrow.2 with ⟨rfl, _⟩ | ⟨g2, cap, cur2, rfl, _, hh2, _⟩
  ·cases q
  ·have : g = g2 := by simpa [Value.ownBlock] using q
   subst this
   rw [hh] at hh2
   simp only [Option.some.injEq, Obj.cells.injEq] at hh2
   exact ht hh2.2.1
 refine hK _ _ (h v' w1 ⟨⟨xs ++ [x], by simpa using h1, ?_⟩, (hown.alloc _).bel.grown hg hle (own_ge hrow), Nat.le_trans hle hg.size⟩ ?_)
 ·intro i y' z' h2 h3
  by_cases hi' : i < zss.length
  ·rw [List.getElem?_append_left (by omega)] at h2
   rw [List.getElem?_append_left hi'] at h3
   exact (hcl i y' z' h2 h3).keep (far _ (by decide))
  ·rw [List.getElem?_append_right (by omega)] at h2 h3
   rw [hxl] at h2
   cases hq : i - zss.length with
   | zero =>
    rw [hq] at h2 h3
    simp at h2 h3
    subst h2 h3
    exact (hx.keep (.of_below ((Below.refl _ _).alloc (Nat.le_refl _) _))).keep (far _ (by decide))
   | succ q => rw [hq] at h2; simp at h2
 ·intro q t l ht hw
  have hw' := hw.alloc (.cells #[x] 132)
  exact hw'.same (far t ht q l.toArray (by simpa [Whole] using hw'))
theorem retG {R : Ending → World → Prop} {a : Act} {w : World} {fn : Func} {s : Nat} {q : Nat} {x0 x1 x2 : Value} (hr : fn.results = #[.cell s 32]) (h4 : a.tmps.getD s undef = .pointer (some ⟨q, 0, none⟩)) (hd : a.defers = [])
  (hw : Whole w q 32 [x0, x1, x2]) (hR : R (.returned (.agg #[x0, x1, x2])) w) : bodyPost Tryz.prog fn R .ret a w := by
 have c0 : w.cell? ⟨q, 0, none⟩ = some x0 := hw.cell 0
 have c1 : w.cell? ⟨q, 1, none⟩ = some x1 := hw.cell 1
 have c2 : w.cell? ⟨q, 2, none⟩ = some x2 := hw.cell 2
 clear hw
 rw [Array.getD_eq_getD_getElem?] at h4
 exact bodyPost_ret (v := .agg #[x0, x1, x2]) (by simp [results, hr, h4, c0, c1, c2, go_sem]) hd hR
theorem retG2 {R : Ending → World → Prop} {a : Act} {w : World} {fn : Func} {s u : Nat} {q : Nat} {x0 x1 x2 v : Value} (hr : fn.results = #[.cell s 32, .tmp u]) (h4 : a.tmps.getD s undef = .pointer (some ⟨q, 0, none⟩)) (h5 : a.tmps.getD u undef = v) (hd : a.defers = [])
  (hw : Whole w q 32 [x0, x1, x2]) (hR : R (.returned (.tuple #[.agg #[x0, x1, x2], v])) w) : bodyPost Tryz.prog fn R .ret a w := by
 have c0 : w.cell? ⟨q, 0, none⟩ = some x0 := hw.cell 0
 have c1 : w.cell? ⟨q, 1, none⟩ = some x1 := hw.cell 1
 have c2 : w.cell? ⟨q, 2, none⟩ = some x2 := hw.cell 2
 clear hw
 rw [Array.getD_eq_getD_getElem?] at h4 h5
 exact bodyPost_ret (v := .tuple #[.agg #[x0, x1, x2], v]) (by simp [results, hr, h4, h5, c0, c1, c2, go_sem]) hd hR
theorem put3 {w : World} {q : Nat} {t : TypeId} {y0 y1 y2 : Value} (hw : Whole w q t [y0, y1, y2]) (x0 x1 x2 : Value) : Whole (((w.setCell ⟨q, 0, none⟩ x0).setCell ⟨q, 1, none⟩ x1).setCell ⟨q, 2, none⟩ x2) q t [x0, x1, x2] := ((hw.put 0 x0).put 1 x1).put 2 x2
theorem below_put3 {B : Nat} {W w : World} {q : Nat} (h : Below B W w) (hq : B ≤ q) (x0 x1 x2 : Value) : Below B W (((w.setCell ⟨q, 0, none⟩ x0).setCell ⟨q, 1, none⟩ x1).setCell ⟨q, 2, none⟩ x2) :=
 ((h.setCell (p := ⟨q, 0, none⟩) hq x0).setCell (p := ⟨q, 1, none⟩) hq x1).setCell (p := ⟨q, 2, none⟩) hq x2
theorem GridAt.three {w : World} {G L M R C : Nat} {g : Gd} {cap : Nat} {ps : Nat → Nat} {room : List Cel} {more : List Value} (h : GridAt w G L M R C g cap ps room more) :
  w.cell? ⟨G, 0, none⟩ = some (.int .i64 g.row) ∧ w.cell? ⟨G, 1, none⟩ = some (.int .i64 g.col) ∧ w.cell? ⟨G, 2, none⟩ = some (.slice (some ⟨L, 0, none⟩) R cap) ∧ G < w.heap.size ∧ L < w.heap.size ∧ M < w.heap.size := ⟨h.top.cell 0, h.top.cell 1, h.top.cell 2, h.top.lt, h.lines.lt, h.piece.lt⟩
section
variable {w : World} {G L M R C : Nat} {g : Gd}
theorem has_any (h : Grd w G L M R C g) (r : Int) : Calls Tryz.prog 63 #[.pointer (some ⟨G, 0, none⟩), .int .i64 r] w fun e w' => e = .returned (.bool (decide (hasG R r))) ∧ w = w' := by
 obtain ⟨cap, ps, room, more, h⟩ := h
 obtain ⟨c0, c1, c2, lG, -, -⟩ := h.three
 clear h
 by_cases h0 : 0 ≤ r
 ·by_cases h1 : r < (R : Int)
  ·have HD : Hid (decide (hasG R r) = true) := by unfold Hid hasG; simp [h0, h1]
   go_enter Tryz.func63, Tryz.ntmps63
   go_wp2; go_ret
   exact ⟨ret_bool HD.out.symm, rfl⟩
  ·have HD : Hid (decide (hasG R r) = false) := by unfold Hid hasG; simp [h1]
   go_enter Tryz.func63, Tryz.ntmps63
   go_wp2; go_ret
   exact ⟨ret_bool HD.out.symm, rfl⟩
 ·have HD : Hid (decide (hasG R r) = false) := by unfold Hid hasG; simp [h0]
  go_enter Tryz.func63, Tryz.ntmps63
  go_wp2; go_ret
  exact ⟨ret_bool HD.out.symm, rfl⟩
def sideB (n : Int) : Bool := decide (1 ≤ n ∧ n ≤ 512)
theorem side_any (n : Int) (w : World) : Calls Tryz.prog 65 #[.int .i64 n] w fun e w' => e = .returned (.bool (sideB n)) ∧ w = w' := by
 by_cases h0 : 1 ≤ n
 ·by_cases h1 : n ≤ 512
  ·have HD : Hid (sideB n = true) := by unfold Hid sideB; simp [h0, h1]
   go_enter Tryz.func65, Tryz.ntmps65
   go_wp2; go_ret
   exact ⟨ret_bool HD.out.symm, rfl⟩
  ·have HD : Hid (sideB n = false) := by unfold Hid sideB; simp [h1]
   go_enter Tryz.func65, Tryz.ntmps65
   go_wp2; go_ret
   exact ⟨ret_bool HD.out.symm, rfl⟩
 ·have HD : Hid (sideB n = false) := by unfold Hid sideB; simp [h0]
  go_enter Tryz.func65, Tryz.ntmps65
  go_wp2; go_ret
  exact ⟨ret_bool HD.out.symm, rfl⟩
theorem rows_any (h : Grd w G L M R C g) : Calls Tryz.prog 28 #[.pointer (some ⟨G, 0, none⟩)] w fun e w' => e = .returned (.int .i64 R) ∧ w = w' := by
 obtain ⟨cap, ps, room, more, h⟩ := h
 obtain ⟨c0, c1, c2, lG, -, -⟩ := h.three
 clear h
 go_enter Tryz.func28, Tryz.ntmps28
 go_wp2; go_ret
 exact ⟨rfl, rfl⟩
theorem row_any (h : Grd w G L M R C g) : Calls Tryz.prog 33 #[.pointer (some ⟨G, 0, none⟩)] w fun e w' => e = .returned (.int .i64 g.row) ∧ w = w' := by
 obtain ⟨c0, c1, lG⟩ := h.cursor
 clear h
 go_enter Tryz.func33, Tryz.ntmps33
 go_wp2; go_ret
 exact ⟨rfl, rfl⟩
theorem col_any (h : Grd w G L M R C g) : Calls Tryz.prog 34 #[.pointer (some ⟨G, 0, none⟩)] w fun e w' => e = .returned (.int .i64 g.col) ∧ w = w' := by
 obtain ⟨c0, c1, lG⟩ := h.cursor
 clear h
 go_enter Tryz.func34, Tryz.ntmps34
 go_wp2; go_ret
 exact ⟨rfl, rfl⟩
theorem hasG_in {R : Nat} {r : Nat} (h : r < R) : decide (hasG R (r : Int)) = true := by unfold hasG; simp; omega
theorem hasG_0 {R : Nat} (h : 1 ≤ R) : decide (hasG R 0) = true := by unfold hasG; simp; omega
theorem cols_any (h : Grd w G L M R C g) (hR : 1 ≤ R) : Calls Tryz.prog 29 #[.pointer (some ⟨G, 0, none⟩)] w fun e w' => e = .returned (.int .i64 C) ∧ w = w' := by
 have HG := hide h
 obtain ⟨cap, ps, room, more, h⟩ := h
 obtain ⟨c0, c1, c2, lG, lL, lM⟩ := h.three
 have c3 := h.row (i := 0) (by omega)
 clear h
 go_enter Tryz.func29, Tryz.ntmps29
 go_wp2_with fail
 refine (has_any HG.out 0).mono ?_
 rintro e w1 ⟨rfl, rfl⟩
 rw [hasG_0 hR]
 go_wp2; go_ret
 exact ⟨rfl, rfl⟩
theorem within_any (x : Int) (n : Nat) (hn : 1 ≤ n) (hl : n ≤ 512) (w : World) : Calls Tryz.prog 127 #[.int .i64 x, .int .i64 n] w fun e w' => e = .returned (.int .i64 (nearN x n : Int)) ∧ w = w' := by
 obtain ⟨m, hm⟩ := exq (nearN x n)
 have hm1 : min (max x 0) ((n : Int) - 1) = (m : Int) := by rw [← hm]; unfold nearN; omega
 have HM := hide hm; clear hm
 go_enter Tryz.func127, Tryz.ntmps127
 go_wp2; go_ret
 exact ⟨by rw [HM.out]; rfl, rfl⟩
theorem clone_any (A : Option Addr) (n c : Nat) (cs : List Cel) (w : World) (h : Cels .i32 w A cs) (hn : cs.length = n) (hA : ∃ a, A = some a) (hl : n ≤ 1000000) : Calls Tryz.prog 71 #[.slice A n c] w (MadeC 73 .i32 w cs) := by
 have HC := hide (h.alloc (.cells #[] 73))
 have HN := hide hn
 obtain ⟨a, rfl⟩ := hA
 clear h hn
 have hq : ∀ w, (binOp .eql 97 (.slice (some a) n c) (.slice none 0 0)).run Tryz.prog w = .ok (.bool false) w := fun w => Lib.run_eql_slice_nil w 97 73 (some a) n c 0 0 Tryz.underlying97
 go_enter Tryz.func71, Tryz.ntmps71
 go_wp2_with (at_builtin; refine stopw ?_)
 unfold Hid
 refine wpList_catC elemL rfl _ _ rfl rfl rfl (OwnC.empty w 73 .i32) HC.out HN.out (fun q => by cases q) (by simp; omega) (by omega) ?_
 intro v' w1 hown
 simp only [List.nil_append] at hown
 have HV := hide hown; clear hown; go_wp2; go_ret
 exact ⟨_, rfl, HV.out⟩
theorem gline_any (h : Grd w G L M R C g) (r : Int) (hr : hasG R r) (hC : C ≤ 1000000) : Calls Tryz.prog 37 #[.pointer (some ⟨G, 0, none⟩), .int .i64 r] w (MadeC 73 .i32 w (lAt g.ls r.toNat)) := by
 have HG := hide h
 obtain ⟨cap, ps, room, more, h⟩ := h
 obtain ⟨c0, c1, c2, lG, lL, lM⟩ := h.three
 obtain ⟨q, hq⟩ : ∃ q : Nat, r = (q : Int) := ⟨r.toNat, by unfold hasG at hr; omega⟩
 subst hq
 have hqR : q < R := by unfold hasG at hr; omega
 rw [Int.toNat_natCast]
 have c3 := h.row hqR
 have HC := hide (h.cels hqR)
 have HN := hide (h.lenAt hqR)
 clear h hr
 go_enter Tryz.func37, Tryz.ntmps37
 go_wp2_with fail
 refine (has_any HG.out q).mono ?_
 rintro e w1 ⟨rfl, rfl⟩
 rw [hasG_in hqR]
 go_wp2_with fail
 refine (clone_any _ C C _ w HC.out HN.out ⟨_, rfl⟩ hC).mono ?_
 rintro e w1 ⟨v, rfl, hown⟩
 have HV := hide hown; clear hown c0 c1 c2 c3; go_wp2; go_ret
 exact ⟨_, rfl, HV.out⟩
theorem gline_no (h : Grd w G L M R C g) (r : Int) (hr : ¬ hasG R r) : Calls Tryz.prog 37 #[.pointer (some ⟨G, 0, none⟩), .int .i64 r] w fun e w' => e = .returned (.slice none 0 0) ∧ w = w' := by
 have HG := hide h
 have HD : Hid (decide (hasG R r) = false) := by unfold Hid; simp [hr]
 clear h hr
 go_enter Tryz.func37, Tryz.ntmps37
 go_wp2_with fail
 refine (has_any HG.out r).mono ?_
 rintro e w1 ⟨rfl, rfl⟩
 rw [HD.out]
 go_wp2; go_ret
 exact ⟨rfl, rfl⟩
end
section
variable {w w' : World} {G L M R C : Nat} {g : Gd} {cap : Nat} {ps : Nat → Nat} {room : List Cel} {more : List Value}
theorem only2 {a b : Value} : Only G w ((w.setCell ⟨G, 0, none⟩ a).setCell ⟨G, 1, none⟩ b) := (Only.put _ _).trans (Only.put _ _)
theorem GridAt.cursor (h : GridAt w G L M R C g cap ps room more) (a b : Nat) : GridAt ((w.setCell ⟨G, 0, none⟩ (.int .i64 a)).setCell ⟨G, 1, none⟩ (.int .i64 b)) G L M R C { g with row := a, col := b } cap ps room more :=
 ⟨(h.top.put 0 _).put 1 _, h.lines.far only2 (Ne.symm h.neGL), h.piece.far only2 (Ne.symm h.neGM), h.len, h.cap1, h.cap2, h.perm, h.inj, h.ls⟩
theorem move_any (h : Grd w G L M R C g) (hR : 1 ≤ R) (hR2 : R ≤ 512) (hC : 1 ≤ C) (hC2 : C ≤ 512) (r c : Int) :
  Calls Tryz.prog 75 #[.pointer (some ⟨G, 0, none⟩), .int .i64 r, .int .i64 c] w fun e w' => e = .returned (.tuple #[]) ∧ Grd w' G L M R C (moveG g r c C) ∧ Only G w w' := by
 have HG := hide h
 obtain ⟨cap, ps, room, more, h⟩ := h
 obtain ⟨c0, c1, c2, lG, lL, lM⟩ := h.three
 have hz := h.top.frozen
 have HA := hide h; have HLen := hide h.glen; clear h
 obtain ⟨r', hr'⟩ := exq (nearN r R)
 obtain ⟨c', hc'⟩ := exq (nearN c C)
 have HR := hide hr'; have HC := hide hc'; clear hr' hc'
 go_enter Tryz.func75, Tryz.ntmps75
 go_wp2_with fail
 refine (rows_any HG.out).mono ?_
 rintro e w1 ⟨rfl, rfl⟩
 go_wp2_with fail
 refine (within_any r R hR hR2 w).mono ?_
 rintro e w1 ⟨rfl, rfl⟩
 rw [HR.out]
 go_wp2_with fail
 refine (cols_any HG.out hR).mono ?_
 rintro e w1 ⟨rfl, rfl⟩
 go_wp2_with fail
 refine (within_any c C hC hC2 w).mono ?_
 rintro e w1 ⟨rfl, rfl⟩
 rw [HC.out]
 go_wp2
 refine bodyPost_end (v := .tuple #[]) (by simp [results, Tryz.results75]) rfl ⟨rfl, ?_, only2⟩
 have e : moveG g r c C = { g with row := r', col := c' } := by unfold moveG; rw [HLen.out, HR.out, HC.out]
 rw [e]
 exact .of (HA.out.cursor r' c')
end
theorem okP_r {cs : List Cel} {k : Nat} (h : rightC (cAt cs k) = false) : okP cs k = false := by unfold okP; rw [h]; rfl
theorem okP_a {cs : List Cel} {k : Nat} (h : aloneC cs k = true) : okP cs k = false := by unfold okP; rw [h]; simp
theorem okP_w {cs : List Cel} {k : Nat} (h : rightC (cAt cs k) = true) (ha : aloneC cs k = false) (hw : wAt cs k ≠ 2) : okP cs k = true := (okP_iff cs k).2 ⟨h, ha, fun q => absurd q hw⟩
theorem okP_y {cs : List Cel} {k : Nat} (h : rightC (cAt cs k) = true) (ha : aloneC cs k = false) (hw : cAt cs (k + 1) = restC (cAt cs k)) : okP cs k = true := (okP_iff cs k).2 ⟨h, ha, fun _ => hw⟩
theorem okP_n {cs : List Cel} {k : Nat} (h2 : wAt cs k = 2) (hw : cAt cs (k + 1) ≠ restC (cAt cs k)) : okP cs k = false := by
 cases q : okP cs k
 ·rfl
 ·exact absurd (((okP_iff cs k).1 q).2.2 h2) hw
theorem all_next {p : Nat → Bool} {k : Nat} (h : ∀ j, j < k → p j = true) (hk : p k = true) : ∀ j, j < k + 1 → p j = true := fun j hj => by
 by_cases q : j = k
 ·rw [q]; exact hk
 ·exact h j (by omega)
theorem wrap_small (x : Int) (h0 : -9223372036854775808 ≤ x) (h1 : x ≤ 9223372036854775807) : IntKind.i64.wrap x = x := by
 simp [IntKind.wrap, IntKind.signed, IntKind.bits]
 omega
theorem lright_any (A : Option Addr) (n c : Nat) (cs : List Cel) (w : World) (h : Cels .i32 w A cs) (hn : cs.length = n) (hl : n ≤ 1000000) (hlb : LB cs) (hS : Spans w) : Calls Tryz.prog 49 #[.slice A n c] w (Said (rightL cs) w) := by
 have HC := hide h; have HN := hide hn; have HL := hide hlb; have HS := hide hS
 have nC := @neqCell
 clear h hn hlb hS
 go_enter Tryz.func49, Tryz.ntmps49
 go_wp2
 go_step3
 go_wp2
 go_step3
 go_wp2
 go_loopw [3, 4] (fun i _ wr => ∃ k : Nat, k ≤ n ∧ i = .int .i64 k ∧ Hid (∀ j, j < k → okP cs j = true) ∧ Below w.heap.size w wr) (fun i _ _ => n - (intOf i).toNat)
 case atStart => exact ⟨0, Nat.zero_le _, rfl, (by unfold Hid; intro j hj; omega), Below.refl _ _⟩
 case round =>
  obtain ⟨k, hk, rfl, hall, hbel⟩ := hrel
  have HB := hide hbel; clear hbel
  by_cases hlt : k < n
  ·obtain ⟨b1, o1, rfl, l1, -⟩ := HC.out.at (i := k) (by rw [HN.out]; exact hlt)
   have hcb := HL.out k (by rw [HN.out]; exact hlt)
   obtain ⟨⟨r, x, y, z, ⟨f, g, b⟩⟩, hc⟩ : ∃ q, cAt cs k = q := ⟨_, rfl⟩
   rw [hc] at hcb
   obtain ⟨-, -, -, hz⟩ := hcb
   have HZ := hide (wAt_of (by rw [HN.out]; exact hlt) hc)
   have HK := hide hc
   obtain ⟨u0, u1, u2, u3', u4', u5, u6, -⟩ := (HC.out.below HB.out).sevenC k (by rw [HN.out]; exact hlt) hc
   obtain ⟨W1, hW1⟩ := exq (wr.alloc (.cells #[.int .i32 r, .int .i32 x, .int .i32 y, .int .u8 z, .int .u8 f, .int .u8 g, .int .u8 b] 73))
   have HA : Hid (Whole W1 wr.heap.size 73 [.int .i32 r, .int .i32 x, .int .i32 y, .int .u8 z, .int .u8 f, .int .u8 g, .int .u8 b]) := by unfold Hid; rw [← hW1]; exact Whole.new _ _ _
   have HB1 : Hid (Below w.heap.size w W1) := by unfold Hid; rw [← hW1]; exact HB.out.alloc HB.out.size _
   have HW1 := hide hW1
   obtain ⟨R, hR⟩ := exq (rightC ⟨r, x, y, z, ⟨f, g, b⟩⟩)
   have HR := hide hR; clear hc hW1 hR; go_wp2_with fail
   rw [HW1.out]
   refine (cright_any r x y z f g b hz W1 (HS.out.below HB1.out)).mono ?_
   rintro e w1 ⟨rfl, hb⟩
   rw [HR.out]
   clear u0 u1 u2 u3' u4' u5 u6
   have HB2 := hide (HB1.out.trans (hb.mono HB1.out.size))
   have HA2 := hide (HA.out.later hb)
   clear hb
   cases R
   ·have HF := hide (rightL_noP cs k (by rw [HN.out]; exact hlt) (okP_r (by rw [HK.out]; exact HR.out)))
    have ek : ((k : Int) == (n : Int)) = false := by simp; omega
    go_wp2; go_ret
    exact ⟨ret_bool HF.out.symm, HB2.out⟩
   ·go_wp2_with fail
    refine (alone_any (some ⟨b1, o1, none⟩) n c k cs w1 (HC.out.below HB2.out) HN.out hlt hl).mono ?_
    rintro e w2 ⟨rfl, rfl⟩
    cases hal : aloneC cs k
    case true =>
     have HF := hide (rightL_noP cs k (by rw [HN.out]; exact hlt) (okP_a hal))
     have ek : ((k : Int) == (n : Int)) = false := by simp; omega
     clear hal; go_wp2; go_ret
     exact ⟨ret_bool HF.out.symm, HB2.out⟩
    case false =>
     have HRR : Hid (rightC (cAt cs k) = true) := by unfold Hid; rw [HK.out]; exact HR.out
     by_cases h2 : z = 2
     case neg =>
      have HT := hide (all_next hall.out (okP_w HRR.out hal (by rw [HZ.out]; exact h2)))
      have e2 : ((z : Int) == 2) = false := by simp; omega
      clear h2 hal hall
      obtain ⟨t0, t1, t2, t3, t4, t5, t6, -⟩ := cells7 HA2.out
      go_wp2
      refine rgH (fun w' => Below w1.heap.size w1 w') [(false, 0), (false, 1), (false, 2), (false, 3), (true, 4), (true, 5), (true, 6), (true, 7), (true, 8), (false, 9), (false, 10), (false, 11), (false, 12), (false, 13)] bd1 ?_
      refine alH fun K hK => ?_
      go_wp2
      refine hK.out _ _ bd1 ?_
      clear hK K
      refine alH fun K hK => ?_
      go_wp2
      refine hK.out _ _ bd1 ?_
      clear hK K
      refine alH fun K hK => ?_
      go_wp2
      refine hK.out _ _ bd1 ?_
      clear hK K
      refine alH fun K hK => ?_
      go_wp2
      refine hK.out _ _ bd1 ?_
      clear hK K
      iterate 5 refine skH (h := ?_)
      refine paH bd1 (h := ?_)
      refine paH bd1 (h := ?_)
      refine paH bd1 (h := ?_)
      refine alH fun K hK => ?_
      go_wp2
      refine hK.out _ _ bd1 ?_
      clear hK K
      refine alH fun K hK => ?_
      go_wp2
      refine hK.out _ _ bd1 ?_
      clear hK K
      refine chainH_nil ?_
      go_wp2
      go_roundw
      case rel => exact ⟨k + 1, by omega, by go_num, HT, HB2.out.trans (bd1.mono HB2.out.size)⟩
      case measure => simp [intOf]; omega
     case pos =>
      have e2 : ((z : Int) == 2) = true := by simp; omega
      have hz2 : wAt cs k = 2 := by rw [HZ.out]; exact h2
      have hk1 : k + 1 < n := by have q := alone_2 hz2 hal; have q2 := wAt_lt (l := cs) (i := k + 1) (by omega); rw [HN.out] at q2; exact q2
      obtain ⟨⟨r', x', y', z', ⟨f', g', b'⟩⟩, hc'⟩ : ∃ q, cAt cs (k + 1) = q := ⟨_, rfl⟩
      obtain ⟨t0, t1, t2, t3, t4, t5, t6, -⟩ := cells7 HA2.out
      have hwr : IntKind.i64.wrap ((k : Int) + 1) = (k : Int) + 1 := wrap_small _ (by omega) (by omega)
      have hw0 : (0 : Int) ≤ (k : Int) + 1 := by omega
      have hw1 : (k : Int) + 1 < (n : Int) := by omega
      have hw2 : ((k : Int) + 1).toNat = k + 1 := by omega
      by_cases he : cAt cs (k + 1) = restC (cAt cs k)
      ·have HT := hide (all_next hall.out (okP_y HRR.out hal he))
       have HQ : Hid (eqC r' x' y' (z' : Int) (f' : Int) (g' : Int) (b' : Int) 0 0 0 0 (f : Int) (g : Int) (b : Int) = true) := by
        unfold Hid
        rw [hc', HK.out] at he
        have q := eqC_cel r' x' y' z' f' g' b' 0 0 0 0 f g b
        rw [show (⟨0, 0, 0, 0, ⟨f, g, b⟩⟩ : Cel) = restC ⟨r, x, y, z, ⟨f, g, b⟩⟩ from rfl, ← he] at q
        simpa using q
       have HC' := hide hc'
       clear h2 hal hall hz2 he hc'; go_wp2
       refine rgH (fun w' => Below w1.heap.size w1 w') [(false, 0), (false, 1), (false, 2), (false, 3), (true, 4), (true, 5), (true, 6), (true, 7), (true, 8), (false, 9), (false, 10), (false, 11), (false, 12), (false, 13)] bd1 ?_
       refine alH fun K hK => ?_
       go_wp2
       refine hK.out _ _ bd1 ?_
       clear hK K
       refine alH fun K hK => ?_
       go_wp2
       refine hK.out _ _ bd1 ?_
       clear hK K
       refine alH fun K hK => ?_
       go_wp2
       refine hK.out _ _ bd1 ?_
       clear hK K
       refine alH fun K hK => ?_
       go_wp2
       refine hK.out _ _ bd1 ?_
       clear hK K
       refine stH (h := ?_)
       refine stH (h := ?_)
       refine stH (hy := fun w hS => by have hw6 := hwr; go_simp <;> with_reducible rfl) (h := ?_)
       refine stH (hy := fun w hS => by have hw7 := hw0; have hw8 := hw1; have hw9 := hw2; go_simp <;> with_reducible rfl) (h := ?_)
       refine stH (hy := fun w hS => by obtain ⟨v0, v1, v2, v3, v4, v5, v6, -⟩ := ((HC.out.below HB2.out).below hS).sevenC (k + 1) (by rw [HN.out]; exact hk1) HC'.out; go_simp <;> with_reducible rfl) (h := ?_)
       refine alH fun K hK => ?_
       go_wp2
       refine hK.out _ _ bd1 ?_
       clear hK K
       refine alH fun K hK => ?_
       go_wp2_with fail
       refine (rest_v r x y z f g b _).mono ?_
       rintro e j1 ⟨rfl, hb⟩
       have Bj1 : Below w1.heap.size w1 j1 := bd1.trans hb
       have hq := HQ.out
       clear hb; go_wp2
       refine hK.out _ _ Bj1 ?_
       clear hK K
       refine alH fun K hK => ?_
       go_wp2
       refine hK.out _ _ Bj1 ?_
       clear hK K
       refine alH fun K hK => ?_
       go_wp2
       refine hK.out _ _ Bj1 ?_
       clear hK K
       refine alH fun K hK => ?_
       go_wp2
       refine hK.out _ _ Bj1 ?_
       clear hK K
       refine chainH_nil ?_
       go_wp2
       go_roundw
       case rel => exact ⟨k + 1, by omega, by go_num, HT, HB2.out.trans (Bj1.mono HB2.out.size)⟩
       case measure => simp [intOf]; omega
      ·have HF := hide (rightL_noP cs k (by rw [HN.out]; exact hlt) (okP_n hz2 he))
       have ek : ((k : Int) == (n : Int)) = false := by simp; omega
       have HQ : Hid (eqC r' x' y' (z' : Int) (f' : Int) (g' : Int) (b' : Int) 0 0 0 0 (f : Int) (g : Int) (b : Int) = false) := by
        unfold Hid
        rw [hc', HK.out] at he
        have q := eqC_cel r' x' y' z' f' g' b' 0 0 0 0 f g b
        rw [show (⟨0, 0, 0, 0, ⟨f, g, b⟩⟩ : Cel) = restC ⟨r, x, y, z, ⟨f, g, b⟩⟩ from rfl, decide_eq_false he] at q
        exact q
       have HC' := hide hc'
       clear h2 hal hall hz2 he hc'; go_wp2
       refine rgH (fun w' => Below w1.heap.size w1 w') [(false, 0), (false, 1), (false, 2), (false, 3), (true, 4), (true, 5), (true, 6), (true, 7), (true, 8), (false, 9), (false, 10), (false, 11), (false, 12), (false, 13)] bd1 ?_
       refine alH fun K hK => ?_
       go_wp2
       refine hK.out _ _ bd1 ?_
       clear hK K
       refine alH fun K hK => ?_
       go_wp2
       refine hK.out _ _ bd1 ?_
       clear hK K
       refine alH fun K hK => ?_
       go_wp2
       refine hK.out _ _ bd1 ?_
       clear hK K
       refine alH fun K hK => ?_
       go_wp2
       refine hK.out _ _ bd1 ?_
       clear hK K
       refine stH (h := ?_)
       refine stH (h := ?_)
       refine stH (hy := fun w hS => by have hw6 := hwr; go_simp <;> with_reducible rfl) (h := ?_)
       refine stH (hy := fun w hS => by have hw7 := hw0; have hw8 := hw1; have hw9 := hw2; go_simp <;> with_reducible rfl) (h := ?_)
       refine stH (hy := fun w hS => by obtain ⟨v0, v1, v2, v3, v4, v5, v6, -⟩ := ((HC.out.below HB2.out).below hS).sevenC (k + 1) (by rw [HN.out]; exact hk1) HC'.out; go_simp <;> with_reducible rfl) (h := ?_)
       refine alH fun K hK => ?_
       go_wp2
       refine hK.out _ _ bd1 ?_
       clear hK K
       refine alH fun K hK => ?_
       go_wp2_with fail
       refine (rest_v r x y z f g b _).mono ?_
       rintro e j1 ⟨rfl, hb⟩
       have Bj1 : Below w1.heap.size w1 j1 := bd1.trans hb
       have hq := HQ.out
       clear hb; go_wp2
       refine hK.out _ _ Bj1 ?_
       clear hK K
       refine alH fun K hK => ?_
       go_wp2
       refine hK.out _ _ Bj1 ?_
       clear hK K
       refine alH fun K hK => ?_
       go_wp2
       refine hK.out _ _ Bj1 ?_
       clear hK K
       refine alH fun K hK => ?_
       go_wp2
       refine hK.out _ _ Bj1 ?_
       clear hK K
       refine chainH_nil ?_
       go_wp2; go_ret
       exact ⟨ret_bool HF.out.symm, HB2.out.trans (Bj1.mono HB2.out.size)⟩
  ·have HF : Hid (rightL cs = true) := by unfold Hid; exact rightL_yesP cs (fun j hj => hall.out j (by rw [HN.out] at hj; omega))
   have ek : ((k : Int) == (n : Int)) = true := by simp; omega
   clear hall; go_wp2; go_ret
   exact ⟨ret_bool HF.out.symm, HB.out⟩
end
end Go.Proofs.YtkijclgbpbhglaaGreatDoor
