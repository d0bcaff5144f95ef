/-
  Contracts and plain mathematics of LOpen, GMem, GBase, GRef, GMove, GChg, GMade, GCat, GScr.
-/
import Derived.Test.YtoddfaoifnkhlaaDoorS5
import Derived.Deep.Slices
import Derived.Test.YtoddfaoifnkhlaaDoorS4
import Derived.Test.YtoddfaoifnkhlaaDoorS2
import Derived.Test.YtoddfaoifnkhlaaDoorS3
import Derived.Test.YtoddfaoifnkhlaaDoorS1
import Derived.Lib.AppendZeros
namespace Go.Proofs.YtoddfaoifnkhlaaDoor
set_option maxRecDepth 100000
set_option linter.unusedVariables false
set_option maxHeartbeats 8000000
section
open Go.ChangeShapes Go.WideShapes Go.ChangeAt Go.RowKit Go.Joins
theorem cels_of_each {k : IntKind} {w : World} {b off n : Nat} {F : Nat → Cel} (h : ∀ i, i < n → ∀ d v, (cellL k (F i))[d]? = some v → w.cell? ⟨b, off + (i * 7 + d), none⟩ = some v) : Cels k w (some ⟨b, off, none⟩) (tab n F) := by
 refine .inr ⟨b, off, rfl, fun j v hj => ?_⟩
 have hl : j < n * 7 := by have := (List.getElem?_eq_some_iff.1 hj).1; rwa [flatC_len, tab_len] at this
 have e : j = j / 7 * 7 + j % 7 := by omega
 have hq : j / 7 < n := by omega
 have hd : j % 7 < 7 := by omega
 rw [e, flatC_get k _ _ _ hd, tab_get _ _ _ hq] at hj
 have := h (j / 7) hq (j % 7) v hj
 rwa [← e] at this
theorem list7 {α : Type} {cs : List α} (h : cs.length = 7) : ∃ c0 c1 c2 c3 c4 c5 c6, cs = [c0, c1, c2, c3, c4, c5, c6] := by
 match cs, h with
 | [c0, c1, c2, c3, c4, c5, c6], _ => exact ⟨c0, c1, c2, c3, c4, c5, c6, rfl⟩
section
variable {H : Type} {enc : TypeId × Value → H} {w : World} {base : Nat} {spare : Nat → Bool} {held : Bool}
theorem open_line {a : Option Addr} {len cap : Nat} {x : DataW H} {p : List MemPlace} (h : DataW.Trod enc Tryd.prog w base spare held 34 (.slice a len cap) x p) : ∃ cs, LineIn w a len cap cs := by
 obtain ⟨fuel, hf⟩ := h
 rcases Deep.open_slice Tryd.underlying34 hf with ⟨hcs, _⟩ | ⟨ad, l, c, m, n, D, Pl, hcs, hb, hl, hm, hmm, _, hel⟩
 ·simp [Value.cells] at hcs
  obtain ⟨rfl, rfl, rfl⟩ := hcs
  exact ⟨[], .nil, Nat.le_refl _, Nat.le_refl _, fun _ => rfl, fun i hi => by cases hi⟩
 ·simp [Value.cells] at hcs
  obtain ⟨rfl, rfl, rfl⟩ := hcs
  have hlm : len ≤ m := by rw [hmm]; split <;> omega
  rw [sizeCell] at hel
  have each : ∀ i, i < len → ∃ c : Cel, CelB c ∧ ∀ d v, (cellL .i32 c)[d]? = some v → w.cell? ((ad.add (i * 7)).add d) = some v := by
   intro i hi
   obtain ⟨cs', h1, h2⟩ := hel i (by omega)
   obtain ⟨-, h3, h4⟩ := World.cells?_some h1
   obtain ⟨c0, c1, c2, c3, c4, c5, c6, rfl⟩ := list7 h3
   obtain ⟨r, q, y, z, f, g, b, e, ok⟩ := cells_cell h2
   refine ⟨⟨r, q, y, z, ⟨f, g, b⟩⟩, ⟨ok.1, ok.2.1, ok.2.2.1, ok.2.2.2.1⟩, fun d v hv => ?_⟩
   have hd : d < 7 := (List.getElem?_eq_some_iff.1 hv).1
   rw [h4 d hd, e]
   exact hv
  by_cases h0 : len = 0
  ·subst h0
   exact ⟨[], .nil, Nat.le_refl _, hl, (fun h => by cases h), fun i hi => by cases hi⟩
  ·obtain ⟨c0, _, hc0⟩ := each 0 (by omega)
   have hs : ad.spot = none := by
    have := World.cell?_spot (hc0 0 _ rfl)
    simpa [Addr.add] using this
   obtain ⟨b, off, spot⟩ := ad
   simp only at hs
   subst hs
   have hadd : ∀ i j, ((⟨b, off, none⟩ : Addr).add i).add j = ⟨b, off + (i + j), none⟩ := by
    intro i j
    have e1 : ∀ (o q : Nat), (⟨b, o, none⟩ : Addr).add q = ⟨b, o + q, none⟩ := fun o q => by unfold Addr.add; split <;> simp_all
    rw [e1, e1, Nat.add_assoc]
   have each2 : ∀ i : Nat, ∃ c : Cel, i < len → CelB c ∧ ∀ d v, (cellL .i32 c)[d]? = some v → w.cell? ⟨b, off + (i * 7 + d), none⟩ = some v := by
    intro i
    by_cases hi : i < len
    ·obtain ⟨c, h1, h2⟩ := each i hi
     exact ⟨c, fun _ => ⟨h1, fun d v hv => by rw [← hadd]; exact h2 d v hv⟩⟩
    ·exact ⟨zeroC, fun q => absurd q hi⟩
   let F : Nat → Cel := fun i => Classical.choose (each2 i)
   have hF : ∀ i, i < len → CelB (F i) ∧ ∀ d v, (cellL .i32 (F i))[d]? = some v → w.cell? ⟨b, off + (i * 7 + d), none⟩ = some v := fun i hi => Classical.choose_spec (each2 i) hi
   exact ⟨tab len F, cels_of_each fun i hi => (hF i hi).2, by rw [tab_len]; exact Nat.le_refl _, hl, (fun h => by cases h), LB_tab fun i hi => (hF i hi).1⟩
end
end
section
open Go.ChangeShapes Go.WideShapes Go.ChangeAt Go.RowKit
theorem Whole.ne {w : World} {a b : Nat} {t t' : TypeId} {l l' : List Value} (h : Whole w a t l) (k : Whole w b t' l') (ht : t ≠ t') : a ≠ b := by
 rintro rfl
 unfold Whole at h k
 rw [h] at k
 simp only [Option.some.injEq, Obj.cells.injEq] at k
 exact ht k.2.1
theorem Whole.same {w w' : World} {g : Nat} {t : TypeId} {l : List Value} (h : Whole w g t l) (e : w'.heap[g]? = w.heap[g]?) : Whole w' g t l := e.trans h
structure Trn (G L M : Nat) (w w' : World) : Prop where
 os : w'.os = w.os
 tape : w'.tape = w.tape
 output : w'.output = w.output
 size : w.heap.size ≤ w'.heap.size
 block : ∀ i, i < w.heap.size → i ≠ G → i ≠ L → i ≠ M → w'.heap[i]? = w.heap[i]?
section
variable {G L M L' : Nat} {w w' w'' : World}
theorem Trn.refl : Trn G L M w w := ⟨rfl, rfl, rfl, Nat.le_refl _, fun _ _ _ _ _ => rfl⟩
theorem Trn.trans (h : Trn G L M w w') (k : Trn G L' M w' w'') (hL : L' = L ∨ w.heap.size ≤ L') : Trn G L M w w'' :=
 ⟨k.os.trans h.os, k.tape.trans h.tape, k.output.trans h.output, Nat.le_trans h.size k.size, fun i hi h1 h2 h3 => (k.block i (Nat.lt_of_lt_of_le hi h.size) h1 (by rcases hL with rfl | q; exact h2; omega) h3).trans (h.block i hi h1 h2 h3)⟩
theorem Trn.of_below (h : Below w.heap.size w w') : Trn G L M w w' := ⟨h.os, h.tape, h.output, h.size, fun i hi _ _ _ => h.block i hi⟩
theorem Trn.of_onlyM (h : Only M w w') : Trn G L M w w' := ⟨h.os, h.tape, h.output, h.size, fun i hi _ _ h3 => h.block i hi (by simpa using h3)⟩
theorem Trn.of_onlyG (h : Only G w w') : Trn G L M w w' := ⟨h.os, h.tape, h.output, h.size, fun i hi h1 _ _ => h.block i hi (by simpa using h1)⟩
theorem Trn.below {B : Nat} {a : World} (h : Trn G L M w w') (hb : Below B a w) (hB : B ≤ w.heap.size) (hG : B ≤ G) (hL : B ≤ L) (hM : B ≤ M) : Below B a w' :=
 ⟨h.os.trans hb.os, h.tape.trans hb.tape, h.output.trans hb.output, Nat.le_trans hb.size h.size, fun i hi => (h.block i (by omega) (by omega) (by omega) (by omega)).trans (hb.block i hi)⟩
theorem Trn.whole (h : Trn G L M w w') {g : Nat} {t : TypeId} {l : List Value} (hw : Whole w g t l) (h1 : g ≠ G) (h2 : g ≠ L) (h3 : g ≠ M) : Whole w' g t l := hw.same (h.block g hw.lt h1 h2 h3)
end
def rowV (M C : Nat) (ps : Nat → Nat) (i : Nat) : Value := .slice (some ⟨M, ps i * C * 7, none⟩) C C
def rowsV (M C : Nat) (ps : Nat → Nat) (R : Nat) : List Value := (List.range R).map (rowV M C ps)
theorem rowsV_len (M C : Nat) (ps : Nat → Nat) (R : Nat) : (rowsV M C ps R).length = R := by simp [rowsV]
theorem rowsV_get (M C : Nat) (ps : Nat → Nat) (R i : Nat) (h : i < R) : (rowsV M C ps R)[i]? = some (rowV M C ps i) := by simp [rowsV, h]
def partC (room : List Cel) (C q : Nat) : List Cel := (room.drop (q * C)).take C
theorem part_tab (room : List Cel) (C q : Nat) (h : q * C + C ≤ room.length) : partC room C q = tab C (fun i => cAt room (q * C + i)) := by
 refine tab_is (by unfold partC; rw [List.length_take, List.length_drop]; omega) fun i hi => ?_
 unfold partC cAt
 simp [hi]
theorem part_len (room : List Cel) (C q : Nat) (h : q * C + C ≤ room.length) : (partC room C q).length = C := by rw [part_tab room C q h, tab_len]
theorem mul_room {q R C n : Nat} (hq : q < R) (hn : n = R * C) : q * C + C ≤ n := by
 have : (q + 1) * C ≤ R * C := Nat.mul_le_mul_right _ hq
 rw [Nat.add_mul, Nat.one_mul] at this
 omega
theorem part_lay (room xs : List Cel) (C q r R : Nat) (hr : r < R) (hq : q < R) (hn : room.length = R * C) (hx : xs.length = C) : partC (layC room (r * C) xs) C q = if q = r then xs else partC room C q := by
 have h1 := mul_room hr hn
 have h2 := mul_room hq hn
 have hl : (layC room (r * C) xs).length = room.length := lay_len room (r * C) xs (by omega)
 rw [part_tab _ C q (by omega), lay_tab room (r * C) xs (by omega)]
 have key : ∀ i, i < C → cAt (tab room.length fun i => if r * C ≤ i ∧ i < r * C + xs.length then cAt xs (i - r * C) else cAt room i) (q * C + i) = if r * C ≤ q * C + i ∧ q * C + i < r * C + C then cAt xs (q * C + i - r * C) else cAt room (q * C + i) := by
  intro i hi
  rw [tab_cAt _ _ _ (by omega), hx]
 rw [tab_eq key]
 split
 ·rename_i e
  subst e
  refine (tab_is hx fun i hi => ?_).symm
  rw [if_pos (by omega), show q * C + i - q * C = i by omega]
 ·rename_i e
  rw [part_tab room C q h2]
  refine tab_eq fun i hi => ?_
  rw [if_neg ?_]
  rcases Nat.lt_or_gt_of_ne e with g | g
  ·have := mul_room (C := C) g rfl
   omega
  ·have := mul_room (C := C) g rfl
   omega
structure GridAt (w : World) (G L M R C : Nat) (g : Gd) (cap : Nat) (ps : Nat → Nat) (room : List Cel) (more : List Value) : Prop where
 top : Whole w G 69 [.int .i64 g.row, .int .i64 g.col, .slice (some ⟨L, 0, none⟩) R cap]
 lines : Whole w L 34 (rowsV M C ps R ++ more)
 piece : Whole w M 48 (flatC .i32 room)
 len : room.length = R * C
 cap1 : R ≤ cap
 cap2 : cap ≤ maxLen
 perm : ∀ i, i < R → ps i < R
 inj : ∀ i j, i < R → j < R → ps i = ps j → i = j
 ls : g.ls = gtab R (fun i => partC room C (ps i))
def Grd (w : World) (G L M R C : Nat) (g : Gd) : Prop := ∃ cap ps room more, GridAt w G L M R C g cap ps room more
section
variable {w w' : World} {G L M R C : Nat} {g : Gd} {cap : Nat} {ps : Nat → Nat} {room : List Cel} {more : List Value}
theorem GridAt.neGL (h : GridAt w G L M R C g cap ps room more) : G ≠ L := h.top.ne h.lines (by decide)
theorem GridAt.neGM (h : GridAt w G L M R C g cap ps room more) : G ≠ M := h.top.ne h.piece (by decide)
theorem GridAt.neLM (h : GridAt w G L M R C g cap ps room more) : L ≠ M := h.lines.ne h.piece (by decide)
theorem GridAt.row (h : GridAt w G L M R C g cap ps room more) {i : Nat} (hi : i < R) : w.cell? ⟨L, i, none⟩ = some (.slice (some ⟨M, ps i * C * 7, none⟩) C C) := by
 rw [h.lines.cell, List.getElem?_append_left (by rw [rowsV_len]; exact hi), rowsV_get _ _ _ _ _ hi]
 rfl
theorem GridAt.lAt (h : GridAt w G L M R C g cap ps room more) {i : Nat} (hi : i < R) : lAt g.ls i = partC room C (ps i) := by rw [h.ls, gtab_lAt _ _ _ hi]
theorem GridAt.lenAt (h : GridAt w G L M R C g cap ps room more) {i : Nat} (hi : i < R) : (Proofs.YtoddfaoifnkhlaaDoor.lAt g.ls i).length = C := by rw [h.lAt hi]; exact part_len _ _ _ (mul_room (h.perm i hi) h.len)
theorem GridAt.glen (h : GridAt w G L M R C g cap ps room more) : g.ls.length = R := by rw [h.ls, gtab_len]
theorem GridAt.cels (h : GridAt w G L M R C g cap ps room more) {i : Nat} (hi : i < R) : Cels .i32 w (some ⟨M, ps i * C * 7, none⟩) (Proofs.YtoddfaoifnkhlaaDoor.lAt g.ls i) := by
 refine .inr ⟨M, ps i * C * 7, rfl, fun j v hj => ?_⟩
 rw [h.lAt hi] at hj
 unfold partC at hj
 rw [flatC_take, List.getElem?_take] at hj
 split at hj
 ·rw [flatC_drop, List.getElem?_drop] at hj
  rw [h.piece.cell, hj]
 ·cases hj
theorem GridAt.same (h : GridAt w G L M R C g cap ps room more) (hG : w'.heap[G]? = w.heap[G]?) (hL : w'.heap[L]? = w.heap[L]?) (hM : w'.heap[M]? = w.heap[M]?) : GridAt w' G L M R C g cap ps room more :=
 ⟨h.top.same hG, h.lines.same hL, h.piece.same hM, h.len, h.cap1, h.cap2, h.perm, h.inj, h.ls⟩
theorem GridAt.later (h : GridAt w G L M R C g cap ps room more) (hb : Below w.heap.size w w') : GridAt w' G L M R C g cap ps room more :=
 h.same (hb.block _ h.top.lt) (hb.block _ h.lines.lt) (hb.block _ h.piece.lt)
theorem GridAt.lay (h : GridAt w G L M R C g cap ps room more) {r : Nat} (hr : r < R) (xs : List Cel) (hx : xs.length = C) (ho : Only M w w') (hw : Whole w' M 48 (flatC .i32 (layC room (ps r * C) xs))) :
  GridAt w' G L M R C { g with ls := g.ls.set r xs } cap ps (layC room (ps r * C) xs) more := by
 have hp := h.perm r hr
 have hm := mul_room hp h.len
 refine ⟨h.top.far ho h.neGM, h.lines.far ho h.neLM, hw, by rw [lay_len _ _ _ (by omega), h.len], h.cap1, h.cap2, h.perm, h.inj, ?_⟩
 show g.ls.set r xs = _
 rw [set_gtab, h.glen]
 refine gtab_eq fun i hi => ?_
 rw [part_lay room xs C (ps i) (ps r) R hp (h.perm i hi) h.len hx, h.lAt hi]
 by_cases e : i = r
 ·rw [if_pos e, if_pos (by rw [e])]
 ·rw [if_neg e, if_neg (fun q => e (h.inj i r hi hr q))]
theorem Grd.of (h : GridAt w G L M R C g cap ps room more) : Grd w G L M R C g := ⟨cap, ps, room, more, h⟩
theorem Grd.later (h : Grd w G L M R C g) (hb : Below w.heap.size w w') : Grd w' G L M R C g := by
 obtain ⟨cap, ps, room, more, h⟩ := h
 exact ⟨cap, ps, room, more, h.later hb⟩
theorem Grd.ltG (h : Grd w G L M R C g) : G < w.heap.size := by obtain ⟨_, _, _, _, h⟩ := h; exact h.top.lt
theorem Grd.ltL (h : Grd w G L M R C g) : L < w.heap.size := by obtain ⟨_, _, _, _, h⟩ := h; exact h.lines.lt
theorem Grd.ltM (h : Grd w G L M R C g) : M < w.heap.size := by obtain ⟨_, _, _, _, h⟩ := h; exact h.piece.lt
theorem Grd.glen (h : Grd w G L M R C g) : g.ls.length = R := by obtain ⟨_, _, _, _, h⟩ := h; exact h.glen
theorem Grd.far {G' L' M' : Nat} (h : Grd w G L M R C g) (ht : Trn G' L' M' w w') (hG : G ≠ G' ∧ G ≠ L' ∧ G ≠ M') (hL : L ≠ G' ∧ L ≠ L' ∧ L ≠ M') (hM : M ≠ G' ∧ M ≠ L' ∧ M ≠ M') : Grd w' G L M R C g := by
 obtain ⟨cap, ps, room, more, h⟩ := h
 exact ⟨cap, ps, room, more, h.same (ht.block _ h.top.lt hG.1 hG.2.1 hG.2.2) (ht.block _ h.lines.lt hL.1 hL.2.1 hL.2.2) (ht.block _ h.piece.lt hM.1 hM.2.1 hM.2.2)⟩
theorem Grd.cursor (h : Grd w G L M R C g) : w.cell? ⟨G, 0, none⟩ = some (.int .i64 g.row) ∧ w.cell? ⟨G, 1, none⟩ = some (.int .i64 g.col) ∧ G < w.heap.size := by
 obtain ⟨cap, ps, room, more, h⟩ := h
 exact ⟨h.top.cell 0, h.top.cell 1, h.top.lt⟩
end
def Stays (t : TypeId) (w w' : World) : Prop := ∀ (b : Nat) (cur : Array Value), w.heap[b]? = some (Obj.cells cur t (0, 0)) → w'.heap[b]? = w.heap[b]?
theorem Stays.of_below {t : TypeId} {w w' : World} (h : Below w.heap.size w w') : Stays t w w' := fun b cur hb => h.block b (Array.getElem?_eq_some_iff.1 hb).1
theorem Stays.trans {t : TypeId} {w w' w'' : World} (h : Stays t w w') (k : Stays t w' w'') : Stays t w w'' := fun b cur hb => (k b cur ((h b cur hb).trans hb)).trans (h b cur hb)
theorem Stays.put {t t' : TypeId} {w : World} {g i : Nat} {l : List Value} {u : Value} (h : Whole w g t' l) (ht : t ≠ t') : Stays t w (w.setCell ⟨g, i, none⟩ u) := by
 intro b cur hb
 refine Below.heap_setCell _ _ _ _ ?_
 rintro rfl
 unfold Whole at h
 rw [hb] at h
 simp only [Option.some.injEq, Obj.cells.injEq] at h
 exact ht h.2.1
def RowOk (w : World) (x : Value) (z : List Cel) : Prop := ∃ A c, x = .slice A z.length c ∧ (A = none → c = 0) ∧ z.length ≤ c ∧ (z = [] ∨ ∃ b off cur, A = some ⟨b, off, none⟩ ∧ w.heap[b]? = some (Obj.cells cur 82 (0, 0)) ∧ ∀ j v, (flatC .i64 z)[j]? = some v → w.cell? ⟨b, off + j, none⟩ = some v)
def Lns (w : World) (A : Option Addr) (ls : List (List Cel)) : Prop := ls = [] ∨ ∃ b cur, A = some ⟨b, 0, none⟩ ∧ w.heap[b]? = some (Obj.cells cur 56 (0, 0)) ∧ ∀ i, i < ls.length → ∃ x, cur[i]? = some x ∧ RowOk w x (lAt ls i)
section
variable {w w' : World} {A : Option Addr} {ls : List (List Cel)} {x : Value} {z : List Cel}
theorem RowOk.keep (h : RowOk w x z) (hb : Stays 82 w w') : RowOk w' x z := by
 obtain ⟨A, c, e, h0, hn, hc⟩ := h
 refine ⟨A, c, e, h0, hn, ?_⟩
 rcases hc with hc | ⟨b, off, cur, ha, hh, hc⟩
 ·exact .inl hc
 ·refine .inr ⟨b, off, cur, ha, (hb b cur hh).trans hh, fun j v hj => ?_⟩
  have := hc j v hj
  rw [cell_of_row _ b _ cur 82 (0, 0) hh] at this
  rw [cell_of_row _ b _ cur 82 (0, 0) ((hb b cur hh).trans hh), this]
theorem RowOk.one (h : RowOk w x z) : x.oneCell' = true := by obtain ⟨A, c, rfl, _⟩ := h; rfl
theorem RowOk.form (h : RowOk w x z) : ∃ A c, x = .slice A z.length c ∧ Cels .i64 w A z ∧ (A = none → c = 0) := by
 obtain ⟨A, c, e, h0, -, hc⟩ := h
 refine ⟨A, c, e, ?_, h0⟩
 rcases hc with hc | ⟨b, off, cur, ha, hh, hc⟩
 ·exact .inl hc
 ·exact .inr ⟨b, off, ha, hc⟩
theorem RowOk.capOf {n c : Nat} (h : RowOk w (.slice A n c) z) : z.length ≤ c := by
 obtain ⟨A', c', e, _, hn, _⟩ := h
 cases e
 exact hn
theorem OwnC.rowOk {B : Nat} {w0 : World} (h : OwnC 82 .i64 B w0 w x z) : RowOk w x z := by
 rcases h.own.2 with ⟨rfl, h0⟩ | ⟨g, cap, cur, rfl, _, hh, hc, hm, _, _⟩
 ·have : z = [] := List.eq_nil_of_length_eq_zero h0
  subst this
  exact ⟨none, 0, rfl, fun _ => rfl, Nat.le_refl _, .inl rfl⟩
 ·refine ⟨_, cap, rfl, (fun h => by cases h), hc, .inr ⟨g, 0, cur, rfl, hh, fun i v hi => ?_⟩⟩
  have := h.own.cells (g := g) rfl i v hi
  rwa [show (⟨g, 0, none⟩ : Addr).add i = ⟨g, 0 + i, none⟩ by unfold Addr.add; split <;> simp_all] at this
theorem Lns.keep (h : Lns w A ls) (hb : Stays 82 w w') (hl : Stays 56 w w') : Lns w' A ls := by
 rcases h with h | ⟨b, cur, ha, hh, hc⟩
 ·exact .inl h
 ·refine .inr ⟨b, cur, ha, (hl b cur hh).trans hh, fun i hi => ?_⟩
  obtain ⟨x, h1, h2⟩ := hc i hi
  exact ⟨x, h1, h2.keep hb⟩
theorem Lns.below (h : Lns w A ls) (hb : Below w.heap.size w w') : Lns w' A ls := h.keep (.of_below hb) (.of_below hb)
theorem Lns.alloc (h : Lns w A ls) (o : Obj) : Lns (w.alloc o) A ls := h.below ((Below.refl _ _).alloc (Nat.le_refl _) _)
theorem Lns.drewN (h : Lns w A ls) (n : Nat) : Lns (w.drewN n) A ls := h.below ((Below.refl _ _).drewN n)
theorem Lns.at (h : Lns w A ls) {i : Nat} (hi : i < ls.length) : ∃ b A' c', A = some ⟨b, 0, none⟩ ∧ b < w.heap.size ∧ w.cell? ⟨b, i, none⟩ = some (.slice A' (lAt ls i).length c') ∧ RowOk w (.slice A' (lAt ls i).length c') (lAt ls i) ∧ Cels .i64 w A' (lAt ls i) ∧ (A' = none → c' = 0) := by
 rcases h with rfl | ⟨b, cur, ha, hh, hc⟩
 ·simp at hi
 ·obtain ⟨x, h1, h2⟩ := hc i hi
  obtain ⟨A', c', rfl, h3, h4⟩ := h2.form
  refine ⟨b, A', c', ha, (Array.getElem?_eq_some_iff.1 hh).1, ?_, h2, h3, h4⟩
  rw [cell_of_row _ b _ cur 56 (0, 0) hh, h1]
end
section
variable {w w' : World} {G L M R C : Nat} {g : Gd}
theorem Grd.stays (h : Grd w G L M R C g) (ht : Trn G L M w w') {t : TypeId} (h1 : t ≠ 69) (h2 : t ≠ 34) (h3 : t ≠ 48) : Stays t w w' := by
 obtain ⟨cap, ps, room, more, h⟩ := h
 intro b cur hb
 have hw : Whole w b t cur.toList := by unfold Whole; simpa using hb
 exact ht.block b hw.lt (hw.ne h.top h1) (hw.ne h.lines h2) (hw.ne h.piece h3)
theorem Lns.turn {A : Option Addr} {ls : List (List Cel)} (h : Lns w A ls) (hg : Grd w G L M R C g) (ht : Trn G L M w w') : Lns w' A ls :=
 h.keep (hg.stays ht (by decide) (by decide) (by decide)) (hg.stays ht (by decide) (by decide) (by decide))
end
structure RwsC (B : Nat) (w wr : World) (v : Value) (zss : List (List Cel)) : Prop where
 row : ∃ xs : List Value, wr.ownsRow B 56 1 v zss.length xs ∧ ∀ (i : Nat) (x : Value) (z : List Cel), xs[i]? = some x → zss[i]? = some z → RowOk wr x z
 bel : Below B w wr
 le : B ≤ wr.heap.size
section
variable {B : Nat} {w wr w1 : World} {v : Value} {zss : List (List Cel)}
theorem RwsC.start (hB : B ≤ w.heap.size) : RwsC B w w (.slice none 0 0) [] := ⟨⟨[], World.ownsRow_nil _ _ _ _, fun i x z h => by simp at h⟩, Below.refl _ _, hB⟩
theorem RwsC.from0 (hB : B ≤ wr.heap.size) (hb : Below B w wr) : RwsC B w wr (.slice none 0 0) [] := ⟨⟨[], World.ownsRow_nil _ _ _ _, fun i x z h => by simp at h⟩, hb, hB⟩
theorem RwsC.later (h : RwsC B w wr v zss) (hb : Below wr.heap.size wr w1) : RwsC B w w1 v zss := by
 obtain ⟨xs, ho, hc⟩ := h.row
 refine ⟨⟨xs, ⟨ho.1, ?_⟩, fun i x z h1 h2 => (hc i x z h1 h2).keep (.of_below hb)⟩, h.bel.trans (hb.mono h.le), Nat.le_trans h.le hb.size⟩
 rcases ho.2 with h0 | ⟨g, cap, cur, hv, hB, hh, h1⟩
 ·exact .inl h0
 ·exact .inr ⟨g, cap, cur, hv, hB, by rw [hb.block g (Array.getElem?_eq_some_iff.1 hh).1, hh], h1⟩
theorem RwsC.alloc (h : RwsC B w wr v zss) (o : Obj) : RwsC B w (wr.alloc o) v zss := h.later ((Below.refl _ _).alloc (Nat.le_refl _) _)
theorem RwsC.put (h : RwsC B w wr v zss) {g i : Nat} {t : TypeId} {l : List Value} {u : Value} (hw : Whole wr g t l) (h1 : t ≠ 82) (h2 : t ≠ 56) (hg : B ≤ g) : RwsC B w (wr.setCell ⟨g, i, none⟩ u) v zss := by
 obtain ⟨xs, ho, hc⟩ := h.row
 have hs1 : Stays 82 wr (wr.setCell ⟨g, i, none⟩ u) := Stays.put hw (Ne.symm h1)
 have hs2 : Stays 56 wr (wr.setCell ⟨g, i, none⟩ u) := Stays.put hw (Ne.symm h2)
 refine ⟨⟨xs, ⟨ho.1, ?_⟩, fun i x z h1 h2 => (hc i x z h1 h2).keep hs1⟩, h.bel.setCell (p := ⟨g, i, none⟩) hg u, by simpa [World.setCell] using h.le⟩
 rcases ho.2 with h0 | ⟨g', cap, cur, hv, hB, hh, h3⟩
 ·exact .inl h0
 ·exact .inr ⟨g', cap, cur, hv, hB, (hs2 g' cur hh).trans hh, h3⟩
theorem RwsC.form (h : RwsC B w wr v zss) : ∃ A cap, v = .slice A zss.length cap ∧ zss.length ≤ cap ∧ cap ≤ maxLen ∧ (A = none → cap = 0) ∧ Lns wr A zss := by
 obtain ⟨xs, ho, hc⟩ := h.row
 have hxl : xs.length = zss.length := by have := ho.1; omega
 rcases ho.2 with ⟨rfl, h0⟩ | ⟨g, cap, cur, rfl, _, hh, hcap, hm, hcs, htake⟩
 ·have : zss = [] := List.eq_nil_of_length_eq_zero h0
  subst this
  exact ⟨none, 0, rfl, Nat.le_refl _, Nat.zero_le _, (fun _ => rfl), .inl rfl⟩
 ·refine ⟨_, cap, rfl, hcap, hm, (fun h => by cases h), .inr ⟨g, cur, rfl, hh, fun i hi => ?_⟩⟩
  have hx : xs[i]? = some xs[i] := List.getElem?_eq_getElem (by omega)
  refine ⟨xs[i], ?_, hc i _ _ hx (get_lAt zss i hi)⟩
  have := ho.cellAt i (by omega)
  rw [cell_of_row _ g i cur 56 (0, 0) hh, hx] at this
  exact this
end
theorem elemRL : ElemR Tryd.prog 67 34 := ⟨Tryd.underlying67, by kernel_rfl⟩
theorem put3 {w : World} {q : Nat} {t : TypeId} {y0 y1 y2 : Value} (hw : Whole w q t [y0, y1, y2]) (x0 x1 x2 : Value) : Whole (((w.setCell ⟨q, 0, none⟩ x0).setCell ⟨q, 1, none⟩ x1).setCell ⟨q, 2, none⟩ x2) q t [x0, x1, x2] := ((hw.put 0 x0).put 1 x1).put 2 x2
theorem below_put3 {B : Nat} {W w : World} {q : Nat} (h : Below B W w) (hq : B ≤ q) (x0 x1 x2 : Value) : Below B W (((w.setCell ⟨q, 0, none⟩ x0).setCell ⟨q, 1, none⟩ x1).setCell ⟨q, 2, none⟩ x2) :=
 ((h.setCell (p := ⟨q, 0, none⟩) hq x0).setCell (p := ⟨q, 1, none⟩) hq x1).setCell (p := ⟨q, 2, none⟩) hq x2
theorem GridAt.three {w : World} {G L M R C : Nat} {g : Gd} {cap : Nat} {ps : Nat → Nat} {room : List Cel} {more : List Value} (h : GridAt w G L M R C g cap ps room more) :
  w.cell? ⟨G, 0, none⟩ = some (.int .i64 g.row) ∧ w.cell? ⟨G, 1, none⟩ = some (.int .i64 g.col) ∧ w.cell? ⟨G, 2, none⟩ = some (.slice (some ⟨L, 0, none⟩) R cap) ∧ G < w.heap.size ∧ L < w.heap.size ∧ M < w.heap.size := ⟨h.top.cell 0, h.top.cell 1, h.top.cell 2, h.top.lt, h.lines.lt, h.piece.lt⟩
section
variable {w : World} {G L M R C : Nat} {g : Gd}
theorem has_any (h : Grd w G L M R C g) (r : Int) : Calls Tryd.prog 42 #[.pointer (some ⟨G, 0, none⟩), .int .i64 r] w fun e w' => e = .returned (.bool (decide (hasG R r))) ∧ w = w' := by
 obtain ⟨cap, ps, room, more, h⟩ := h
 obtain ⟨c0, c1, c2, lG, -, -⟩ := h.three
 clear h
 by_cases h0 : 0 ≤ r
 ·by_cases h1 : r < (R : Int)
  ·have HD : Hid (decide (hasG R r) = true) := by unfold Hid hasG; simp [h0, h1]
   go_enter Tryd.func42, Tryd.ntmps42
   go_wp2; go_ret
   exact ⟨ret_bool HD.out.symm, rfl⟩
  ·have HD : Hid (decide (hasG R r) = false) := by unfold Hid hasG; simp [h1]
   go_enter Tryd.func42, Tryd.ntmps42
   go_wp2; go_ret
   exact ⟨ret_bool HD.out.symm, rfl⟩
 ·have HD : Hid (decide (hasG R r) = false) := by unfold Hid hasG; simp [h0]
  go_enter Tryd.func42, Tryd.ntmps42
  go_wp2; go_ret
  exact ⟨ret_bool HD.out.symm, rfl⟩
theorem has_nil (r : Int) (w : World) : Calls Tryd.prog 42 #[.pointer none, .int .i64 r] w fun e w' => e = .returned (.bool false) ∧ w = w' := by
 go_enter Tryd.func42, Tryd.ntmps42
 go_wp2; go_ret
 exact ⟨rfl, rfl⟩
def sideB (n : Int) : Bool := decide (1 ≤ n ∧ n ≤ 512)
theorem side_any (n : Int) (w : World) : Calls Tryd.prog 21 #[.int .i64 n] w fun e w' => e = .returned (.bool (sideB n)) ∧ w = w' := by
 by_cases h0 : 1 ≤ n
 ·by_cases h1 : n ≤ 512
  ·have HD : Hid (sideB n = true) := by unfold Hid sideB; simp [h0, h1]
   go_enter Tryd.func21, Tryd.ntmps21
   go_wp2; go_ret
   exact ⟨ret_bool HD.out.symm, rfl⟩
  ·have HD : Hid (sideB n = false) := by unfold Hid sideB; simp [h1]
   go_enter Tryd.func21, Tryd.ntmps21
   go_wp2; go_ret
   exact ⟨ret_bool HD.out.symm, rfl⟩
 ·have HD : Hid (sideB n = false) := by unfold Hid sideB; simp [h0]
  go_enter Tryd.func21, Tryd.ntmps21
  go_wp2; go_ret
  exact ⟨ret_bool HD.out.symm, rfl⟩
theorem rows_any (h : Grd w G L M R C g) : Calls Tryd.prog 25 #[.pointer (some ⟨G, 0, none⟩)] w fun e w' => e = .returned (.int .i64 R) ∧ w = w' := by
 obtain ⟨cap, ps, room, more, h⟩ := h
 obtain ⟨c0, c1, c2, lG, -, -⟩ := h.three
 clear h
 go_enter Tryd.func25, Tryd.ntmps25
 go_wp2; go_ret
 exact ⟨rfl, rfl⟩
theorem rows_nil (w : World) : Calls Tryd.prog 25 #[.pointer none] w fun e w' => e = .returned (.int .i64 0) ∧ w = w' := by
 go_enter Tryd.func25, Tryd.ntmps25
 go_wp2; go_ret
 exact ⟨rfl, rfl⟩
theorem row_any (h : Grd w G L M R C g) : Calls Tryd.prog 32 #[.pointer (some ⟨G, 0, none⟩)] w fun e w' => e = .returned (.int .i64 g.row) ∧ w = w' := by
 obtain ⟨c0, c1, lG⟩ := h.cursor
 clear h
 go_enter Tryd.func32, Tryd.ntmps32
 go_wp2; go_ret
 exact ⟨rfl, rfl⟩
theorem row_nil (w : World) : Calls Tryd.prog 32 #[.pointer none] w fun e w' => e = .returned (.int .i64 0) ∧ w = w' := by
 go_enter Tryd.func32, Tryd.ntmps32
 go_wp2; go_ret
 exact ⟨rfl, rfl⟩
theorem col_any (h : Grd w G L M R C g) : Calls Tryd.prog 33 #[.pointer (some ⟨G, 0, none⟩)] w fun e w' => e = .returned (.int .i64 g.col) ∧ w = w' := by
 obtain ⟨c0, c1, lG⟩ := h.cursor
 clear h
 go_enter Tryd.func33, Tryd.ntmps33
 go_wp2; go_ret
 exact ⟨rfl, rfl⟩
theorem col_nil (w : World) : Calls Tryd.prog 33 #[.pointer none] w fun e w' => e = .returned (.int .i64 0) ∧ w = w' := by
 go_enter Tryd.func33, Tryd.ntmps33
 go_wp2; go_ret
 exact ⟨rfl, rfl⟩
theorem hasG_in {R : Nat} {r : Nat} (h : r < R) : decide (hasG R (r : Int)) = true := by unfold hasG; simp; omega
theorem hasG_0 {R : Nat} (h : 1 ≤ R) : decide (hasG R 0) = true := by unfold hasG; simp; omega
theorem cols_any (h : Grd w G L M R C g) (hR : 1 ≤ R) : Calls Tryd.prog 26 #[.pointer (some ⟨G, 0, none⟩)] w fun e w' => e = .returned (.int .i64 C) ∧ w = w' := by
 have HG := hide h
 obtain ⟨cap, ps, room, more, h⟩ := h
 obtain ⟨c0, c1, c2, lG, lL, lM⟩ := h.three
 have c3 := h.row (i := 0) (by omega)
 clear h
 go_enter Tryd.func26, Tryd.ntmps26
 go_wp2_with fail
 refine (has_any HG.out 0).mono ?_
 rintro e w1 ⟨rfl, rfl⟩
 rw [hasG_0 hR]
 go_wp2; go_ret
 exact ⟨rfl, rfl⟩
theorem cols_nil (w : World) : Calls Tryd.prog 26 #[.pointer none] w fun e w' => e = .returned (.int .i64 0) ∧ w = w' := by
 go_enter Tryd.func26, Tryd.ntmps26
 go_wp2_with fail
 refine (has_nil 0 w).mono ?_
 rintro e w1 ⟨rfl, rfl⟩
 go_wp2; go_ret
 exact ⟨rfl, rfl⟩
theorem within_any (x : Int) (n : Nat) (hn : 1 ≤ n) (hl : n ≤ 512) (w : World) : Calls Tryd.prog 31 #[.int .i64 x, .int .i64 n] w fun e w' => e = .returned (.int .i64 (nearN x n : Int)) ∧ w = w' := by
 obtain ⟨m, hm⟩ := exq (nearN x n)
 have hm1 : min (max x 0) ((n : Int) - 1) = (m : Int) := by rw [← hm]; unfold nearN; omega
 have HM := hide hm; clear hm
 go_enter Tryd.func31, Tryd.ntmps31
 go_wp2; go_ret
 exact ⟨by rw [HM.out]; rfl, rfl⟩
theorem clone_any (A : Option Addr) (n c : Nat) (cs : List Cel) (w : World) (h : Cels .i32 w A cs) (hn : cs.length = n) (hA : ∃ a, A = some a) (hl : n ≤ 1000000) : Calls Tryd.prog 50 #[.slice A n c] w (MadeC 48 .i32 w cs) := by
 have HC := hide (h.alloc (.cells #[] 48))
 have HN := hide hn
 obtain ⟨a, rfl⟩ := hA
 clear h hn
 have hq : ∀ w, (binOp .eql 34 (.slice (some a) n c) (.slice none 0 0)).run Tryd.prog w = .ok (.bool false) w := fun w => Lib.run_eql_slice_nil w 34 48 (some a) n c 0 0 Tryd.underlying34
 go_enter Tryd.func50, Tryd.ntmps50
 go_wp2_with (at_builtin; refine stopw ?_)
 unfold Hid
 refine wpList_catC elemL rfl _ _ rfl rfl rfl (OwnC.empty w 48 .i32) HC.out HN.out (fun q => by cases q) (by simp; omega) (by omega) ?_
 intro v' w1 hown
 simp only [List.nil_append] at hown
 have HV := hide hown; clear hown; go_wp2; go_ret
 exact ⟨_, rfl, HV.out⟩
theorem gline_any (h : Grd w G L M R C g) (r : Int) (hr : hasG R r) (hC : C ≤ 1000000) : Calls Tryd.prog 35 #[.pointer (some ⟨G, 0, none⟩), .int .i64 r] w (MadeC 48 .i32 w (lAt g.ls r.toNat)) := by
 have HG := hide h
 obtain ⟨cap, ps, room, more, h⟩ := h
 obtain ⟨c0, c1, c2, lG, lL, lM⟩ := h.three
 obtain ⟨q, hq⟩ : ∃ q : Nat, r = (q : Int) := ⟨r.toNat, by unfold hasG at hr; omega⟩
 subst hq
 have hqR : q < R := by unfold hasG at hr; omega
 rw [Int.toNat_natCast]
 have c3 := h.row hqR
 have HC := hide (h.cels hqR)
 have HN := hide (h.lenAt hqR)
 clear h hr
 go_enter Tryd.func35, Tryd.ntmps35
 go_wp2_with fail
 refine (has_any HG.out q).mono ?_
 rintro e w1 ⟨rfl, rfl⟩
 rw [hasG_in hqR]
 go_wp2_with fail
 refine (clone_any _ C C _ w HC.out HN.out ⟨_, rfl⟩ hC).mono ?_
 rintro e w1 ⟨v, rfl, hown⟩
 have HV := hide hown; clear hown c0 c1 c2 c3; go_wp2; go_ret
 exact ⟨_, rfl, HV.out⟩
theorem gline_no (h : Grd w G L M R C g) (r : Int) (hr : ¬ hasG R r) : Calls Tryd.prog 35 #[.pointer (some ⟨G, 0, none⟩), .int .i64 r] w fun e w' => e = .returned (.slice none 0 0) ∧ w = w' := by
 have HG := hide h
 have HD : Hid (decide (hasG R r) = false) := by unfold Hid; simp [hr]
 clear h hr
 go_enter Tryd.func35, Tryd.ntmps35
 go_wp2_with fail
 refine (has_any HG.out r).mono ?_
 rintro e w1 ⟨rfl, rfl⟩
 rw [HD.out]
 go_wp2; go_ret
 exact ⟨rfl, rfl⟩
theorem gline_nil (r : Int) (w : World) : Calls Tryd.prog 35 #[.pointer none, .int .i64 r] w fun e w' => e = .returned (.slice none 0 0) ∧ w = w' := by
 go_enter Tryd.func35, Tryd.ntmps35
 go_wp2_with fail
 refine (has_nil r w).mono ?_
 rintro e w1 ⟨rfl, rfl⟩
 go_wp2; go_ret
 exact ⟨rfl, rfl⟩
end
def sizeB (r c : Int) : Bool := decide (sizeN r c)
theorem new1W (w : World) (o : Obj) : Below w.heap.size w (w.alloc o) := (Below.refl _ _).alloc (Nat.le_refl _) _
def GaveD (R : Nat) (g : Gd) (w : World) (e : Ending) (w' : World) : Prop := ∃ A cap, e = .returned (.agg #[.slice A R cap, .int .i64 g.row, .int .i64 g.col]) ∧ Lns w' A g.ls ∧ Below w.heap.size w w'
def GaveD2 (R : Nat) (g : Gd) (ok : Bool) (w : World) (e : Ending) (w' : World) : Prop := ∃ A cap, e = .returned (.tuple #[.agg #[.slice A R cap, .int .i64 g.row, .int .i64 g.col], .bool ok]) ∧ Lns w' A g.ls ∧ Below w.heap.size w w'
def OwnD (R : Nat) (g : Gd) (w : World) (e : Ending) (w' : World) : Prop := ∃ b cap, e = .returned (.agg #[.slice (some ⟨b, 0, none⟩) R cap, .int .i64 g.row, .int .i64 g.col]) ∧ Lns w' (some ⟨b, 0, none⟩) g.ls ∧ Below w.heap.size w w' ∧ w.heap.size ≤ b
theorem RwsC.fresh {B : Nat} {w wr : World} {A : Option Addr} {n cap : Nat} {zss : List (List Cel)} (h : RwsC B w wr (.slice A n cap) zss) (h1 : 1 ≤ zss.length) : ∃ b, A = some ⟨b, 0, none⟩ ∧ B ≤ b := by
 obtain ⟨xs, ho, _⟩ := h.row
 rcases ho.2 with ⟨e, h0⟩ | ⟨g, cap', cur, e, hB, _⟩
 ·omega
 ·cases e
  exact ⟨g, rfl, hB⟩
theorem Below.put3 {B : Nat} {W w : World} {q : Nat} (h : Below B W w) (hq : B ≤ q) (x0 x1 x2 : Value) : Below B W (((w.setCell ⟨q, 0, none⟩ x0).setCell ⟨q, 1, none⟩ x1).setCell ⟨q, 2, none⟩ x2) := below_put3 h hq x0 x1 x2
theorem Lns.put3 {w : World} {A : Option Addr} {ls : List (List Cel)} {q : Nat} {t : TypeId} {l : List Value} (h : Lns w A ls) (hq : Whole w q t l) (h1 : t ≠ 82) (h2 : t ≠ 56) (x0 x1 x2 : Value) : Lns (((w.setCell ⟨q, 0, none⟩ x0).setCell ⟨q, 1, none⟩ x1).setCell ⟨q, 2, none⟩ x2) A ls :=
 h.keep (((Stays.put hq (Ne.symm h1)).trans (Stays.put (hq.put 0 x0) (Ne.symm h1))).trans (Stays.put ((hq.put 0 x0).put 1 x1) (Ne.symm h1))) (((Stays.put hq (Ne.symm h2)).trans (Stays.put (hq.put 0 x0) (Ne.symm h2))).trans (Stays.put ((hq.put 0 x0).put 1 x1) (Ne.symm h2)))
section
variable {w w' : World} {G L M R C : Nat} {g : Gd} {cap : Nat} {ps : Nat → Nat} {room : List Cel} {more : List Value}
theorem only2 {a b : Value} : Only G w ((w.setCell ⟨G, 0, none⟩ a).setCell ⟨G, 1, none⟩ b) := (Only.put _ _).trans (Only.put _ _)
theorem GridAt.cursor (h : GridAt w G L M R C g cap ps room more) (a b : Nat) : GridAt ((w.setCell ⟨G, 0, none⟩ (.int .i64 a)).setCell ⟨G, 1, none⟩ (.int .i64 b)) G L M R C { g with row := a, col := b } cap ps room more :=
 ⟨(h.top.put 0 _).put 1 _, h.lines.far only2 (Ne.symm h.neGL), h.piece.far only2 (Ne.symm h.neGM), h.len, h.cap1, h.cap2, h.perm, h.inj, h.ls⟩
theorem move_any (h : Grd w G L M R C g) (hR : 1 ≤ R) (hR2 : R ≤ 512) (hC : 1 ≤ C) (hC2 : C ≤ 512) (r c : Int) :
  Calls Tryd.prog 14 #[.pointer (some ⟨G, 0, none⟩), .int .i64 r, .int .i64 c] w fun e w' => e = .returned (.tuple #[]) ∧ Grd w' G L M R C (moveG g r c C) ∧ Only G w w' := by
 have HG := hide h
 obtain ⟨cap, ps, room, more, h⟩ := h
 obtain ⟨c0, c1, c2, lG, lL, lM⟩ := h.three
 have hz := h.top.frozen
 have HA := hide h; have HLen := hide h.glen; clear h
 obtain ⟨r', hr'⟩ := exq (nearN r R)
 obtain ⟨c', hc'⟩ := exq (nearN c C)
 have HR := hide hr'; have HC := hide hc'; clear hr' hc'
 go_enter Tryd.func14, Tryd.ntmps14
 go_wp2_with fail
 refine (rows_any HG.out).mono ?_
 rintro e w1 ⟨rfl, rfl⟩
 go_wp2_with fail
 refine (within_any r R hR hR2 w).mono ?_
 rintro e w1 ⟨rfl, rfl⟩
 rw [HR.out]
 go_wp2_with fail
 refine (cols_any HG.out hR).mono ?_
 rintro e w1 ⟨rfl, rfl⟩
 go_wp2_with fail
 refine (within_any c C hC hC2 w).mono ?_
 rintro e w1 ⟨rfl, rfl⟩
 rw [HC.out]
 go_wp2
 refine bodyPost_end (v := .tuple #[]) (by simp [results, Tryd.results14]) rfl ⟨rfl, ?_, only2⟩
 have e : moveG g r c C = { g with row := r', col := c' } := by unfold moveG; rw [HLen.out, HR.out, HC.out]
 rw [e]
 exact .of (HA.out.cursor r' c')
end
def Makes (w : World) (C : Nat) (x : List Cel) (ok : Bool) (e : Ending) (w' : World) : Prop := ∃ A n c, e = .returned (.tuple #[.slice A n c, .bool ok]) ∧ Below w.heap.size w w' ∧ (ok = true → n = C ∧ Cels .i32 w' A x ∧ x.length = C)
theorem enter_of {P : Program} {f : FuncId} {fn : Func} (hf : P.funcs[f]? = some fn) (hn : (fn.name == "runtime.NumGoroutine") = false) (hb : fn.body.isNone = false) : ∀ args w, (callFunc f args).run P w = .ok (.enter f args) w := by
 intro args w
 simp only [callFunc, Sem.run_bind]
 simp [hf, go_sem]
 rw [if_neg (by simpa using hn), if_neg (by intro q; simp [q] at hb)]
section
variable {w : World} {G L M R C : Nat} {g : Gd}
theorem change_any (h : Grd w G L M R C g) (f : FuncId) (caps : Array Value) (r : Nat) (hr : r < R) (x : List Cel) (ok : Bool)
  (hfc : ∀ args w, (callFunc f args).run Tryd.prog w = .ok (.enter f args) w) (hf : ∀ (off c : Nat), Cels .i32 w (some ⟨M, off, none⟩) (lAt g.ls r) → ∀ args, args = #[.slice (some ⟨M, off, none⟩) C C] ++ caps → Calls Tryd.prog f args w (Makes w C x ok)) :
  Calls Tryd.prog 28 #[.pointer (some ⟨G, 0, none⟩), .int .i64 r, .func (.func f) #[] caps] w fun e w' => e = .returned (.bool ok) ∧ Grd w' G L M R C (if ok = true then { g with ls := g.ls.set r x } else g) ∧ Trn G L M w w' := by
 have HG := hide h
 obtain ⟨cap, ps, room, more, h⟩ := h
 obtain ⟨c0, c1, c2, lG, lL, lM⟩ := h.three
 have c3 := h.row hr
 have HF := hide (hf (ps r * C * 7) 0 (h.cels hr) _ rfl)
 have HA := hide h; clear h hf
 go_enter Tryd.func28, Tryd.ntmps28
 go_wp2_with fail
 refine (has_any HG.out r).mono ?_
 rintro e w1 ⟨rfl, rfl⟩
 rw [hasG_in hr]
 go_wp2_with fail
 refine (HF.out).mono ?_
 rintro e w1 ⟨A, n, c, rfl, hb, hok⟩
 have HA1 := hide (HA.out.later hb)
 have HB := hide hb; clear c0 c1 c2 c3 lG lL lM hb
 cases ok
 case false =>
  go_wp2; go_ret
  exact ⟨rfl, .of HA1.out, .of_below HB.out⟩
 case true =>
  obtain ⟨rfl, hc, hx⟩ := hok rfl
  obtain ⟨c0, c1, c2, lG, lL, lM⟩ := HA1.out.three
  have c3 := HA1.out.row hr
  have hm := mul_room (HA1.out.perm r hr) HA1.out.len
  obtain ⟨w2, hrun, hw2, ho2⟩ := run_copyL elemL w1 3 M (ps r * n) 48 room x A n n n c HA1.out.piece hc hx hm
  rw [List.take_of_length_le (Nat.le_of_eq hx)] at hw2
  have HA2 := hide (HA1.out.lay hr x hx ho2 hw2)
  have HT : Hid (Trn G L M w w2) := by unfold Hid; exact (Trn.of_below HB.out).trans (Trn.of_onlyM ho2) (.inl rfl)
  clear hw2 ho2 hm hc hx hok; go_wp2; go_ret
  exact ⟨rfl, .of HA2.out, HT.out⟩
theorem change_no (h : Grd w G L M R C g) (f : FuncId) (caps : Array Value) (r : Int) (hr : ¬ hasG R r) :
  Calls Tryd.prog 28 #[.pointer (some ⟨G, 0, none⟩), .int .i64 r, .func (.func f) #[] caps] w fun e w' => e = .returned (.bool false) ∧ w = w' := by
 have HG := hide h
 have HD : Hid (decide (hasG R r) = false) := by unfold Hid; simp [hr]
 clear h hr
 go_enter Tryd.func28, Tryd.ntmps28
 go_wp2_with fail
 refine (has_any HG.out r).mono ?_
 rintro e w1 ⟨rfl, rfl⟩
 rw [HD.out]
 go_wp2; go_ret
 exact ⟨rfl, rfl⟩
theorem Trn.ofB {G L M : Nat} {w w0 w' : World} (hb : Below w.heap.size w w0) (h : Trn G L M w0 w') : Trn G L M w w' := (Trn.of_below hb).trans h (.inl rfl)
theorem LineN2.makes {w w' : World} {C : Nat} {X : List Cel} {ok : Bool} {e : Ending} (h : LineN2 .i32 C X ok w e w') (hx : X.length = C) : Makes w C X ok e w' := by
 obtain ⟨A, c, rfl, hc, hb⟩ := h
 exact ⟨A, C, c, rfl, hb, fun _ => ⟨rfl, hc, hx⟩⟩
theorem put1_any (off : Nat) (q q2 : Nat) (at_ r m x : Int) (d f y b : Nat) (cs : List Cel) (w : World) (hd : d < 256) (ha : -9223372036854775808 ≤ at_ ∧ at_ < 9223372036854775808) (h : Cels .i32 w (some ⟨M, off, none⟩) cs) (hn : cs.length = C) (hC : C ≤ 1000000) (hS : Spans w)
  (h1 : Whole w q 3 [.int .i64 at_]) (h2 : Whole w q2 48 [.int .i32 r, .int .i32 m, .int .i32 x, .int .u8 d, .int .u8 f, .int .u8 y, .int .u8 b]) {X : List Cel} {ok : Bool} (hX : putC cs at_ ⟨r, m, x, d, ⟨f, y, b⟩⟩ = X) (hok : putOk cs at_ ⟨r, m, x, d, ⟨f, y, b⟩⟩ = ok) :
  Calls Tryd.prog 29 #[.slice (some ⟨M, off, none⟩) C C, .pointer (some ⟨q, 0, none⟩), .pointer (some ⟨q2, 0, none⟩)] w (Makes w C X ok) := by
 have HXX := hide hX; have HOK := hide hok
 have HXL : Hid (X.length = cs.length) := by unfold Hid; rw [← hX, put_len]
 have c0 : w.cell? ⟨q, 0, none⟩ = some (.int .i64 at_) := h1.cell 0
 have lq := h1.lt
 obtain ⟨a0, a1, a2, a3, a4, a5, a6, lq2⟩ := cells7 h2
 have HC := hide h; have HN := hide hn; have HS := hide hS; have HA := hide ha; clear h hn hS h1 h2 ha hX hok
 go_enter Tryd.func29, Tryd.ntmps29
 go_wp2_with fail
 refine (put_v at_ r m x d f y b HA.out HXX.out HOK.out HC.out HN.out hC hd HS.out).mono ?_
 intro e w1 hl
 have HL := hide (hl.makes (by rw [HXL.out, HN.out]))
 obtain ⟨A, n, rfl, -, -⟩ := hl
 clear c0 a0 a1 a2 a3 a4 a5 a6; go_wp2; go_ret2
 exact HL.out
theorem put_chg (g : Gd) (r : Nat) (hr : r < g.ls.length) (c : Int) (x : Cel) : (if putOk (lAt g.ls r) c x = true then { g with ls := g.ls.set r (putC (lAt g.ls r) c x) } else g) = putG g (r : Int) c x := by
 have e : putG g (r : Int) c x = { g with ls := g.ls.set r (putC (lAt g.ls r) c x) } := by unfold putG; rw [if_pos (by unfold hasG; omega), Int.toNat_natCast]
 rw [e]
 split
 ·rfl
 ·rename_i h
  rw [putL_no _ _ _ (by simpa using h), set_same]
theorem put_ok (g : Gd) (r : Nat) (hr : r < g.ls.length) (c : Int) (x : Cel) : putGOk g (r : Int) c x = putOk (lAt g.ls r) c x := by
 unfold putGOk
 rw [hasG_in hr, Int.toNat_natCast, Bool.true_and]
theorem put_none (g : Gd) (r : Int) (hr : ¬ hasG g.ls.length r) (c : Int) (x : Cel) : putG g r c x = g ∧ putGOk g r c x = false := by
 unfold putG putGOk
 rw [if_neg hr]
 simp [hr]
theorem gput_any (h : Grd w G L M R C g) (hC : C ≤ 512) (hS : Spans w) (R0 at_ r m x : Int) (d f y b : Nat) (hd : d < 256) (ha : -9223372036854775808 ≤ at_ ∧ at_ < 9223372036854775808) :
  Calls Tryd.prog 13 #[.pointer (some ⟨G, 0, none⟩), .int .i64 R0, .int .i64 at_, .agg #[.int .i32 r, .int .i32 m, .int .i32 x, .int .u8 d, .int .u8 f, .int .u8 y, .int .u8 b]] w fun e w' => e = .returned (.bool (putGOk g R0 at_ ⟨r, m, x, d, ⟨f, y, b⟩⟩)) ∧ Grd w' G L M R C (putG g R0 at_ ⟨r, m, x, d, ⟨f, y, b⟩⟩) ∧ Trn G L M w w' := by
 obtain ⟨W0, hW0⟩ := exq ((w.alloc (.cells #[.int .i64 at_] 3)).alloc (.cells #[.int .i32 r, .int .i32 m, .int .i32 x, .int .u8 d, .int .u8 f, .int .u8 y, .int .u8 b] 48))
 have HB : Hid (Below w.heap.size w W0) := by unfold Hid; rw [← hW0]; exact two_new _ _ _ _ _
 have HS : Hid (Spans W0) := by unfold Hid; rw [← hW0]; exact (hS.alloc _).alloc _
 have HX0 : Hid (Whole W0 (w.heap.size) 3 [.int .i64 at_]) := by unfold Hid; rw [← hW0]; exact ((Whole.new _ _ _).alloc _)
 have HX1 : Hid (Whole W0 (w.heap.size + 1) 48 [.int .i32 r, .int .i32 m, .int .i32 x, .int .u8 d, .int .u8 f, .int .u8 y, .int .u8 b]) := by unfold Hid; rw [← hW0]; exact (whole_snd _ _ _ _)
 have HG := hide (h.later HB.out)
 have HLen := hide h.glen; have HW0 := hide hW0; clear hW0 h hS
 by_cases hr : hasG R R0
 ·obtain ⟨q, hq⟩ : ∃ q : Nat, R0 = (q : Int) := ⟨R0.toNat, by unfold hasG at hr; omega⟩
  subst hq
  have hqR : q < R := by unfold hasG at hr; omega
  have HE := hide (put_chg g q (by rw [HLen.out]; exact hqR) at_ ⟨r, m, x, d, ⟨f, y, b⟩⟩)
  have HO := hide (put_ok g q (by rw [HLen.out]; exact hqR) at_ ⟨r, m, x, d, ⟨f, y, b⟩⟩)
  go_enter Tryd.func13, Tryd.ntmps13
  go_wp2_with fail
  rw [HW0.out]
  obtain ⟨cap, ps, room, more, hat⟩ := HG.out
  refine (change_any HG.out 29 _ q hqR (putC (lAt g.ls q) at_ ⟨r, m, x, d, ⟨f, y, b⟩⟩) (putOk (lAt g.ls q) at_ ⟨r, m, x, d, ⟨f, y, b⟩⟩) (enter_of Tryd.func29 (by kernel_rfl) (by kernel_rfl)) (fun off c9 hc args hargs => ?_)).mono ?_
  ·have ha2 : args = #[.slice (some ⟨M, off, none⟩) C C, .pointer (some ⟨w.heap.size, 0, none⟩), .pointer (some ⟨w.heap.size + 1, 0, none⟩)] := by simpa using hargs
   subst ha2
   exact put1_any off _ _ at_ r m x d f y b _ W0 hd ha hc (hat.lenAt hqR) (by omega) HS.out HX0.out HX1.out rfl rfl
  rintro e w1 ⟨rfl, hg, ht⟩
  rw [HE.out] at hg
  have HG1 := hide hg
  have HT1 := hide (Trn.ofB HB.out ht)
  clear hg ht hat
  rw [← HO.out]
  go_wp2; go_ret
  exact ⟨rfl, HG1.out, HT1.out⟩
 ·have HE := hide (put_none g R0 (by rw [HLen.out]; exact hr) at_ ⟨r, m, x, d, ⟨f, y, b⟩⟩)
  go_enter Tryd.func13, Tryd.ntmps13
  go_wp2_with fail
  rw [HW0.out]
  refine (change_no HG.out 29 _ R0 hr).mono ?_
  rintro e w1 ⟨rfl, rfl⟩
  go_wp2; go_ret
  exact ⟨by rw [HE.out.2]; rfl, by rw [HE.out.1]; exact HG.out, Trn.of_below HB.out⟩
end
theorem whole_owned1 {w : World} {B : Nat} {e : TypeId} {g n : Nat} {xs : List Value} (h : w.ownsRow B e 1 (.slice (some ⟨g, 0, none⟩) n n) n xs) : Whole w g e xs := by
 rcases h.2 with ⟨h', _⟩ | ⟨g', cap', cur, h', hb, hg, hnc, hcm, hcs, htake⟩
 ·cases h'
 ·simp only [Value.slice.injEq, Option.some.injEq, Addr.mk.injEq, and_true, true_and] at h'
  obtain ⟨rfl, rfl⟩ := h'
  rw [List.take_of_length_le (Nat.le_of_eq (by rw [Array.length_toList, hcs]))] at htake
  subst htake
  exact hg
theorem zeros_rows (n : Nat) : (madeCells #[Value.slice none 0 0] n).toList = List.replicate n (.slice none 0 0) := by
 apply List.ext_getElem?
 intro j
 by_cases hj : j < n
 ·simp only [madeCells, Array.toList_map, List.getElem?_map, Array.toList_range, List.getElem?_range hj, Option.map_some, List.getElem?_replicate, if_pos hj]
  simp [Nat.mod_one]
 ·rw [List.getElem?_eq_none (by rw [Array.length_toList, size_madeCells]; omega), List.getElem?_eq_none (by simp; omega)]
theorem wpList_makeR {ops : Array Oper} {rest : List Oper} {o : Oper} {a : Act} {w : World} {Q : Exit → Act → World → Prop} (hg : o.guard = none) (x y : Operand) (hop : o.op = .makeSlice 67 x y)
  (n : Nat) (hx : a.eval x = .int .i64 n) (hy : a.eval y = .int .i64 n) (hn : n ≤ 1000000)
  (h : ∀ w', Whole w' w.heap.size 34 (List.replicate n (.slice none 0 0)) → Below w.heap.size w w' → wpList Tryd.prog ops Q rest (a.put o.dst (.slice (some ⟨w.heap.size, 0, none⟩) n n)) w') : wpList Tryd.prog ops Q (o :: rest) a w := by
 obtain ⟨i0, hi, hz0, hz1, hz2⟩ := info_parts elemRL.info
 have hb : 24 * n ≤ 24 * 1000000 := Nat.mul_le_mul (Nat.le_refl _) hn
 refine wpList_make_full w hg x y 67 hop w.heap.size 34 i0 _ 1 elemRL.under hi hz0 hz1 .i64 .i64 n n n hx hy rfl rfl (by rw [hz2]; omega) (by unfold maxLen; omega) (Nat.le_refl _) ?_
 intro w' ho hgr
 have hw := whole_owned1 ho
 rw [show (Value.slice none 0 0).cells = #[Value.slice none 0 0] from rfl, Nat.mul_one, zeros_rows] at hw
 exact h w' hw ⟨hgr.os, hgr.tape, hgr.output, hgr.size, fun i hi => hgr.block i hi (by simp)⟩
def rowsTo (M C R k : Nat) : List Value := rowsV M C (fun i => i) k ++ List.replicate (R - k) (.slice none 0 0)
theorem rowsTo_0 (M C R : Nat) : rowsTo M C R 0 = List.replicate R (.slice none 0 0) := by simp [rowsTo, rowsV]
theorem rowsTo_all (M C R : Nat) : rowsTo M C R R = rowsV M C (fun i => i) R ++ [] := by simp [rowsTo]
theorem rowsTo_len (M C R k : Nat) (h : k ≤ R) : (rowsTo M C R k).length = R := by unfold rowsTo; rw [List.length_append, rowsV_len, List.length_replicate]; omega
theorem rowsTo_next (M C R k : Nat) (h : k < R) : (rowsTo M C R k).set k (.slice (some ⟨M, k * C * 7, none⟩) C C) = rowsTo M C R (k + 1) := by
 apply List.ext_getElem?
 intro i
 rw [List.getElem?_set, rowsTo_len M C R k (by omega)]
 unfold rowsTo
 by_cases e : k = i
 ·subst e
  rw [if_pos rfl, if_pos h, List.getElem?_append_left (by rw [rowsV_len]; omega), rowsV_get _ _ _ _ _ (by omega)]
  rfl
 ·rw [if_neg e]
  by_cases h1 : i < k
  ·rw [List.getElem?_append_left (by rw [rowsV_len]; omega), List.getElem?_append_left (by rw [rowsV_len]; omega), rowsV_get _ _ _ _ _ h1, rowsV_get _ _ _ _ _ (by omega)]
  ·rw [List.getElem?_append_right (by rw [rowsV_len]; omega), List.getElem?_append_right (by rw [rowsV_len]; omega), rowsV_len, rowsV_len, List.getElem?_replicate, List.getElem?_replicate]
   by_cases h2 : i < R
   ·rw [if_pos (by omega), if_pos (by omega)]
   ·rw [if_neg (by omega), if_neg (by omega)]
theorem rowsTo_row (M C R k : Nat) (h : k < R) : (rowsTo M C R (k + 1))[k]? = some (.slice (some ⟨M, k * C * 7, none⟩) C C) := by
 unfold rowsTo
 rw [List.getElem?_append_left (by rw [rowsV_len]; omega), rowsV_get _ _ _ _ _ (by omega)]
 rfl
def Tells (C : Nat) (z : List Cel) (w : World) (e : Ending) (w' : World) : Prop := ∃ A c, e = .returned (.slice A C c) ∧ Below w.heap.size w w' ∧ Cels .i32 w' A z ∧ z.length = C
def NewGrd (R C : Nat) (g : Gd) (w : World) (G L M : Nat) (w' : World) : Prop := Grd w' G L M R C g ∧ Below w.heap.size w w' ∧ w.heap.size ≤ G ∧ w.heap.size ≤ L ∧ w.heap.size ≤ M
theorem made_any (R C : Nat) (hR : R ≤ 512) (hC1 : 1 ≤ C) (hC : C ≤ 512) (f : FuncId) (caps : Array Value) (F : Nat → List Cel) (w : World) (hfc : ∀ args w, (callFunc f args).run Tryd.prog w = .ok (.enter f args) w)
  (hf : ∀ (k : Nat) (wr : World), k < R → Below w.heap.size w wr → ∀ args, args = #[.int .i64 k] ++ caps → Calls Tryd.prog f args wr (Tells C (F k) wr)) :
  Calls Tryd.prog 23 #[.int .i64 R, .int .i64 C, .func (.func f) #[] caps] w fun e w' => ∃ G L M, e = .returned (.pointer (some ⟨G, 0, none⟩)) ∧ NewGrd R C ⟨gtab R F, 0, 0⟩ w G L M w' := by
 obtain ⟨N, hN⟩ := exq (R * C)
 have hN2 : N ≤ 262144 := by rw [← hN]; exact Nat.mul_le_mul hR hC
 have hmul : (R : Int) * (C : Int) = (N : Int) := by rw [← hN]; simp
 have HN := hide hN; clear hN
 go_enter Tryd.func23, Tryd.ntmps23
 go_wp2_with (at_make; refine stopw ?_)
 unfold Hid
 refine wpList_makeR rfl _ _ rfl R rfl rfl (by omega) ?_
 intro w1 hw1 hb1
 obtain ⟨GB, hGB⟩ := exq (w1.heap.size)
 obtain ⟨W1, hW1⟩ := exq (w1.alloc (.cells #[.int .i64 0, .int .i64 0, .slice (some ⟨w.heap.size, 0, none⟩) R R] 69))
 have HL1 : Hid (Whole W1 w.heap.size 34 (List.replicate R (.slice none 0 0))) := by unfold Hid; rw [← hW1]; exact hw1.alloc _
 have HG1 : Hid (Whole W1 GB 69 [.int .i64 0, .int .i64 0, .slice (some ⟨w.heap.size, 0, none⟩) R R]) := by unfold Hid; rw [← hW1, ← hGB]; exact Whole.new _ _ _
 have HB1 : Hid (Below w.heap.size w W1) := by unfold Hid; rw [← hW1]; exact hb1.alloc hb1.size _
 have HGB : Hid (w.heap.size ≤ GB) := by unfold Hid; rw [← hGB]; exact hb1.size
 have HW1 := hide hW1; have HGB1 := hide hGB; clear hw1 hb1 hW1 hGB
 go_wp2_with (at_make; refine stopw ?_)
 unfold Hid
 rw [HW1.out, HGB1.out]
 refine wpList_makeL elemL rfl _ _ rfl N rfl rfl (by omega) (by omega) ?_
 intro W2 hw2 hb2
 obtain ⟨MB, hMB⟩ := exq (W1.heap.size)
 rw [hMB] at hw2
 have HL2 := hide (HL1.out.later hb2)
 have HG2 := hide (HG1.out.later hb2)
 have HM2 := hide hw2
 have HB2 := hide (HB1.out.trans (hb2.mono HB1.out.size))
 have HMB : Hid (w.heap.size ≤ MB) := by unfold Hid; rw [← hMB]; exact HB1.out.size
 clear hw2 hb2 HL1 HG1
 obtain ⟨t0, t1, t2, lt⟩ := cells3 HG2.out
 have HMB1 := hide hMB; go_wp2; clear hMB t0 t1 t2 lt
 go_loopw [9, 10, 11, 25] (fun _ _ _ i wr => ∃ (k : Nat) (room : List Cel), k ≤ R ∧ i = .int .i64 k ∧ Whole wr w.heap.size 34 (rowsTo MB C R k) ∧ Whole wr GB 69 [.int .i64 0, .int .i64 0, .slice (some ⟨w.heap.size, 0, none⟩) R R] ∧ Whole wr MB 48 (flatC .i32 room) ∧ room.length = N ∧ (∀ q, q < k → partC room C q = F q) ∧ Below w.heap.size w wr) (fun _ _ _ i _ => R - (intOf i).toNat)
 case atStart => exact ⟨0, _, Nat.zero_le _, rfl, by rw [rowsTo_0]; exact HL2.out, HG2.out, HM2.out, by simp, fun q hq => by omega, HB2.out⟩
 case round =>
  obtain ⟨k, room, hk, rfl, hwL, hwG, hwM, hlen, hpart, hbel⟩ := hrel
  have HLk := hide hwL; have HGk := hide hwG; have HMk := hide hwM; have HRL := hide hlen; have HPk := hide hpart; have HBk := hide hbel; clear hwL hwG hwM hlen hpart hbel
  by_cases hlt : k < R
  ·obtain ⟨K1, hK1⟩ := exq (k * C)
   have hm1 : (k : Int) * (C : Int) = (K1 : Int) := by rw [← hK1]; simp
   obtain ⟨K2, hK2⟩ := exq (K1 + C)
   have hm2 : ((k : Int) + 1) * (C : Int) = (K2 : Int) := by rw [← hK2, ← hK1, Int.add_mul]; simp
   have HK2 : Hid (K1 + C ≤ N) := by unfold Hid; rw [← hK1]; exact mul_room hlt HN.out.symm
   have hl1 : K1 ≤ K2 := by omega
   have hl2 : K2 ≤ N := by have := HK2.out; omega
   have HKC : Hid (K2 - K1 = C) := by unfold Hid; omega
   have HK1 := hide hK1
   obtain ⟨t0, t1, t2, lt⟩ := cells3 HGk.out
   have hz := HLk.out.frozen
   have lL := HLk.out.lt
   obtain ⟨x0, hx0⟩ : ∃ x, wr.cell? ⟨w.heap.size, k, none⟩ = some x := ⟨_, by rw [HLk.out.cell, List.getElem?_eq_getElem (by rw [rowsTo_len _ _ _ _ hk]; exact hlt)]⟩
   have hne : ¬ N = K1 := by omega
   have HKK := hide hK2; clear hK1 hK2; go_wp2
   refine rgL (fun _ => True) 11 [(0, 0), (0, 4), (0, 5), (0, 6), (0, 7), (0, 8), (0, 1), (0, 2), (0, 9), (1, 3), (1, 10), (3, 11)] (trivial) ?_
   iterate 8 refine stL (h := ?_)
   refine chainL_take (v := .slice (some ⟨MB, K1 * 7, none⟩) C C) (by simp only [List.getElem?_toArray, List.getElem?_cons_zero, List.getElem?_cons_succ]; rfl) (by rfl) (fun w hS => ?_) ?_
   ·go_simp
    rw [HKC.out]
    exact ⟨fun q => absurd q (by have := HKK.out; omega), rfl⟩
   simp only [Act.put, List.setIfInBounds_toArray, List.set_cons_zero, List.set_cons_succ]
   refine alL fun K hK => ?_
   go_wp2
   refine hK.out _ _ (trivial) ?_
   clear hK K
   refine alL fun K hK => ?_
   go_wp2
   refine hK.out _ _ (trivial) ?_
   clear hK K
   refine laL fun K hK => ?_
   go_wp2
   refine hK.out _ _ ?_
   clear hK K
   refine chainL_nil ?_
   obtain ⟨W3, hW3⟩ := exq ((wr.setCell ⟨w.heap.size, k, none⟩ (.slice (some ⟨MB, K1 * 7, none⟩) C C)).drew)
   have HL3 : Hid (Whole W3 w.heap.size 34 (rowsTo MB C R (k + 1))) := by unfold Hid; rw [← hW3, ← rowsTo_next _ _ _ _ hlt, HK1.out]; exact (HLk.out.put k _).drew
   have HG3 : Hid (Whole W3 GB 69 [.int .i64 0, .int .i64 0, .slice (some ⟨w.heap.size, 0, none⟩) R R]) := by unfold Hid; rw [← hW3]; exact (HGk.out.far (Only.put k _) (HGk.out.ne HLk.out (by decide))).drew
   have HM3 : Hid (Whole W3 MB 48 (flatC .i32 room)) := by unfold Hid; rw [← hW3]; exact (HMk.out.far (Only.put k _) (HMk.out.ne HLk.out (by decide))).drew
   have HB3 : Hid (Below w.heap.size w W3) := by unfold Hid; rw [← hW3]; exact (HBk.out.setCell (p := ⟨w.heap.size, k, none⟩) (Nat.le_refl _) _).drewN 1
   have HRW : Hid ((rowsTo MB C R (k + 1))[k]? = some (.slice (some ⟨MB, K1 * 7, none⟩) C C)) := by unfold Hid; rw [rowsTo_row _ _ _ _ hlt, HK1.out]
   rw [hW3]
   clear hW3 t0 t1 t2 lt hz lL hx0 HLk HGk HMk HBk; go_wp2
   refine rgL (fun w' => Below W3.heap.size W3 w') 10 [(0, 0), (0, 4), (0, 7), (0, 8), (0, 1), (0, 2), (0, 3), (0, 5), (0, 6), (1, 9), (3, 10)] bd1 ?_
   iterate 6 refine stL (h := ?_)
   refine stL (hy := fun w hS => by obtain ⟨t0, t1, t2, -⟩ := cells3 (HG3.out.later hS); go_simp <;> with_reducible rfl) (h := ?_)
   refine stL (h := ?_)
   refine stL (hy := fun w hS => by have l0 := (HL3.out.later hS).cell k; rw [HRW.out] at l0; go_simp <;> with_reducible rfl) (h := ?_)
   refine alL fun K hK => ?_
   go_wp2_with fail
   refine (hf k W3.drew hlt ((HB3.out).drewN 1) _ rfl).mono ?_
   rintro e k1 ⟨A, c, rfl, hb, hc, hn⟩
   have Bk1 : Below W3.heap.size W3 k1 := bd1.trans hb
   clear hb
   obtain ⟨k2, hrun, hw2, ho2⟩ := run_copyL elemL k1 3 MB K1 48 room (F k) A C C C c (HM3.out.later Bk1) hc hn (by rw [HRL.out]; exact HK2.out)
   rw [List.take_of_length_le (Nat.le_of_eq hn)] at hw2
   have HO2 := hide ho2; have HW2 := hide hw2; have HFn := hide hn; have HBk1 := hide Bk1; clear hw2 ho2 hc hn; go_wp2
   refine hK.out _ _ (Bk1) ?_
   clear hK K
   refine laL fun K hK => ?_
   go_wp2
   refine hK.out _ _ ?_
   clear hK K
   refine chainL_nil ?_
   go_wp2
   go_roundw
   case rel =>
    refine ⟨k + 1, layC room K1 (F k), by omega, by go_num, ?_, ?_, HW2.out, ?_, ?_, ?_⟩
    ·exact (HL3.out.later HBk1.out).far HO2.out (HL3.out.ne HM3.out (by decide))
    ·exact (HG3.out.later HBk1.out).far HO2.out (HG3.out.ne HM3.out (by decide))
    ·rw [lay_len _ _ _ (by rw [HFn.out, HRL.out]; exact HK2.out), HRL.out]
    ·intro q hq
     rw [← HK1.out, part_lay room (F k) C q k R hlt (by omega) (by rw [HRL.out, HN.out]) HFn.out]
     split
     ·rename_i e; rw [e]
     ·rename_i e; exact HPk.out q (by omega)
    ·exact HO2.out.below (HB3.out.trans (HBk1.out.mono HB3.out.size)) (Nat.le_trans HB3.out.size HBk1.out.size) HMB.out
   case measure => simp [intOf]; omega
  ·obtain rfl : k = R := by omega
   go_wp2; go_ret
   refine ⟨GB, _, MB, rfl, ⟨k, fun i => i, room, [], ?_⟩, HBk.out, HGB.out, Nat.le_refl _, HMB.out⟩
   refine ⟨HGk.out, by rw [← rowsTo_all]; exact HLk.out, HMk.out, by rw [HRL.out, HN.out], Nat.le_refl _, by unfold maxLen; omega, fun i hi => hi, fun i j _ _ h => h, gtab_eq fun i hi => (HPk.out i hi).symm⟩
structure OwnV (B : Nat) (w wr : World) (v : Value) (xs : List Value) : Prop where
 own : wr.ownsRow B 34 1 v xs.length xs
 bel : Below B w wr
 le : B ≤ wr.heap.size
def Vals (w : World) (ad : Addr) (xs : List Value) : Prop := (∀ j u, xs[j]? = some u → w.cell? (ad.add j) = some u) ∧ ∀ u ∈ xs, u.oneCell' = true
theorem Vals.below {w w' : World} {ad : Addr} {xs : List Value} (h : Vals w ad xs) (hb : Below w.heap.size w w') : Vals w' ad xs := by
 refine ⟨fun j u hu => ?_, h.2⟩
 have := h.1 j u hu
 rw [hb.cell (World.block_lt_of_cell? w _ this), this]
theorem OwnV.later {B : Nat} {w wr w1 : World} {v : Value} {xs : List Value} (h : OwnV B w wr v xs) (hb : Below wr.heap.size wr w1) : OwnV B w w1 v xs := by
 refine ⟨⟨h.own.1, ?_⟩, h.bel.trans (hb.mono h.le), Nat.le_trans h.le hb.size⟩
 rcases h.own.2 with h0 | ⟨g, cap, cur, hv, hB, hh, h1⟩
 ·exact .inl h0
 ·refine .inr ⟨g, cap, cur, hv, hB, ?_, h1⟩
  rw [hb.block g (Array.getElem?_eq_some_iff.1 hh).1, hh]
theorem OwnV.form {B : Nat} {w wr : World} {v : Value} {xs : List Value} (h : OwnV B w wr v xs) (hx : xs ≠ []) : ∃ g cap more, v = .slice (some ⟨g, 0, none⟩) xs.length cap ∧ B ≤ g ∧ Whole wr g 34 (xs ++ more) ∧ xs.length ≤ cap ∧ cap ≤ maxLen := by
 rcases h.own.2 with ⟨rfl, h0⟩ | ⟨g, cap, cur, rfl, hB, hh, hc, hm, hs, ht⟩
 ·exact absurd (List.eq_nil_of_length_eq_zero h0) hx
 ·refine ⟨g, cap, cur.toList.drop xs.length, rfl, hB, ?_, hc, hm⟩
  rw [Nat.mul_one] at ht
  have e := List.take_append_drop xs.length cur.toList
  rw [ht] at e
  unfold Whole
  rw [e]
  simpa using hh
section
variable {w w' : World} {G L M R C : Nat} {g : Gd} {cap : Nat} {ps : Nat → Nat} {room : List Cel} {more : List Value}
theorem Spans.turn (hS : Spans w) (hg : Grd w G L M R C g) (hR : 1 ≤ R) (ht : Trn G L M w w') : Spans w' := by
 obtain ⟨cap, ps, room, more, h⟩ := hg
 have e0 : w.cell? ⟨0, 0, none⟩ = some (.int .i32 0) := hS 0 (.int .i32 0) rfl
 have e2 : ∃ x, w.cell? ⟨0, 2, none⟩ = some (.int .i64 x) := ⟨_, hS 2 _ rfl⟩
 have lt := hS.size
 have hG : 0 ≠ G := by
  rintro rfl
  rw [h.top.cell] at e0
  simp at e0
 have hL : 0 ≠ L := by
  rintro rfl
  rw [h.row (i := 0) (by omega)] at e0
  cases e0
 have hM : 0 ≠ M := by
  rintro rfl
  obtain ⟨x, e2⟩ := e2
  rw [h.piece.cell] at e2
  have hm := List.mem_of_getElem? e2
  unfold flatC at hm
  obtain ⟨c, _, hc⟩ := List.mem_flatMap.1 hm
  simp [cellL] at hc
 intro j v hv
 have := hS j v hv
 have hb := ht.block 0 lt hG hL hM
 unfold World.cell? at this ⊢
 simp only at this ⊢
 rw [hb]
 exact this
end
section
variable {w : World} {G L M R C : Nat} {g : Gd}
end
end
end Go.Proofs.YtoddfaoifnkhlaaDoor
