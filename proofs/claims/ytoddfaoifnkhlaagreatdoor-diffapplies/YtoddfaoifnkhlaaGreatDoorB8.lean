/-
  Contracts and plain mathematics of COpen, LOpen, GMem, GBase, GRef.
-/
import Derived.Test.YtoddfaoifnkhlaaGreatDoorB5
import Derived.Lib.SmallJoins
import Derived.Deep.Strs
import Derived.OpenShut
import Derived.Test.YtoddfaoifnkhlaaGreatDoorB7
import Derived.Deep.Slices
import Derived.Test.YtoddfaoifnkhlaaGreatDoorB2
namespace Go.Proofs.YtoddfaoifnkhlaaGreatDoor
set_option maxRecDepth 100000
set_option linter.unusedVariables false
set_option maxHeartbeats 8000000
section
open Go.ChangeShapes Go.WideShapes Go.ChangeAt Go.RowKit Go.Joins
theorem structCell : ∃ f0 f1 f2 f3 : Field, Tryz.prog.underlying 65 = some (.struct #[f0, f1, f2, f3]) ∧ f0.type = 21 ∧ f1.type = 61 ∧ f2.type = 5 ∧ f3.type = 63 ∧ f0.offset = 0 ∧ f1.offset = 1 ∧ f2.offset = 3 ∧ f3.offset = 4 := ⟨_, _, _, _, Tryz.underlying65, rfl, rfl, rfl, rfl, rfl, rfl, rfl, rfl⟩
theorem structPen : ∃ f0 f1 f2 : Field, Tryz.prog.underlying 63 = some (.struct #[f0, f1, f2]) ∧ f0.type = 5 ∧ f1.type = 5 ∧ f2.type = 5 ∧ f0.offset = 0 ∧ f1.offset = 1 ∧ f2.offset = 2 := ⟨_, _, _, Tryz.underlying63, rfl, rfl, rfl, rfl, rfl, rfl⟩
theorem sizeCell : Tryz.prog.cellsOf 65 = 7 := by kernel_rfl
theorem sizePen : Tryz.prog.cellsOf 63 = 3 := by kernel_rfl
theorem sizeM : Tryz.prog.cellsOf 61 = 2 := by kernel_rfl
theorem sizeU8 : Tryz.prog.cellsOf 5 = 1 := by kernel_rfl
theorem array7 {α : Type} {cs : Array α} (h : cs.size = 7) : ∃ c0 c1 c2 c3 c4 c5 c6, cs = #[c0, c1, c2, c3, c4, c5, c6] := by
 obtain ⟨l⟩ := cs
 match l, h with
 | [c0, c1, c2, c3, c4, c5, c6], _ => exact ⟨c0, c1, c2, c3, c4, c5, c6, rfl⟩
section
variable {H : Type} {enc : TypeId × Value → H} {w : World} {base : Nat} {spare : Nat → Bool} {held : Bool}
theorem cells_pen {fuel : Nat} {c0 c1 c2 : Value} {x : DataW H × List MemPlace} (h : DataW.trod enc Tryz.prog w base spare held fuel 63 [c0, c1, c2] = some x) :
  ∃ f g b : Nat, c0 = .int .u8 f ∧ c1 = .int .u8 g ∧ c2 = .int .u8 b ∧ PenOk f g b := by
 obtain ⟨f0, f1, f2, hu, e0, e1, e2, o0, o1, o2⟩ := structPen
 obtain ⟨y0, y1, y2, n, hx, hl, h0, h1, h2⟩ := Deep.trod_struct3 hu h
 rw [e0, o0, sizeU8] at h0
 rw [e1, o1, sizeU8] at h1
 rw [e2, o2, sizeU8] at h2
 obtain ⟨n0, k0, r0, w0⟩ := DataW.trod_int Tryz.underlying5 h0
 obtain ⟨n1, k1, r1, w1⟩ := DataW.trod_int Tryz.underlying5 h1
 obtain ⟨n2, k2, r2, w2⟩ := DataW.trod_int Tryz.underlying5 h2
 simp at k0 k1 k2
 subst k0 k1 k2
 obtain ⟨a0, rfl, m0⟩ := u8_nat w0
 obtain ⟨a1, rfl, m1⟩ := u8_nat w1
 obtain ⟨a2, rfl, m2⟩ := u8_nat w2
 exact ⟨a0, a1, a2, rfl, rfl, rfl, m0, m1, m2⟩
theorem cells_marks {fuel : Nat} {c0 c1 : Value} {x : DataW H × List MemPlace} (h : DataW.trod enc Tryz.prog w base spare held fuel 61 [c0, c1] = some x) :
  ∃ m n : Int, c0 = .int .i32 m ∧ c1 = .int .i32 n ∧ R32 m ∧ R32 n := by
 obtain ⟨xs, k, rfl, hx, hl, hn, hel⟩ := DataW.trod_array Tryz.underlying61 h
 have h0 := hel 0 (by omega)
 have h1 := hel 1 (by omega)
 rw [cellsI32] at h0 h1
 match xs, hn with
 | [y0, y1], _ =>
  simp at h0 h1
  obtain ⟨n0, k0, r0, w0⟩ := DataW.trod_int Tryz.underlying21 h0
  obtain ⟨n1, k1, r1, w1⟩ := DataW.trod_int Tryz.underlying21 h1
  simp at k0 k1
  subst k0 k1
  exact ⟨n0, n1, rfl, rfl, i32_R w0, i32_R w1⟩
theorem cells_cell {fuel : Nat} {c0 c1 c2 c3 c4 c5 c6 : Value} {x : DataW H × List MemPlace} (h : DataW.trod enc Tryz.prog w base spare held fuel 65 [c0, c1, c2, c3, c4, c5, c6] = some x) :
  ∃ (r m n : Int) (d f g b : Nat), [c0, c1, c2, c3, c4, c5, c6] = [.int .i32 r, .int .i32 m, .int .i32 n, .int .u8 d, .int .u8 f, .int .u8 g, .int .u8 b] ∧ CelOk r m n d f g b := by
 obtain ⟨f0, f1, f2, f3, hu, e0, e1, e2, e3, o0, o1, o2, o3⟩ := structCell
 obtain ⟨y0, y1, y2, y3, n, hx, hl, h0, h1, h2, h3⟩ := trod_struct4 hu h
 rw [e0, o0, cellsI32] at h0
 rw [e1, o1, sizeM] at h1
 rw [e2, o2, sizeU8] at h2
 rw [e3, o3, sizePen] at h3
 simp only [List.drop_zero, List.drop_succ_cons, List.take_succ_cons, List.take_zero] at h0 h1 h2 h3
 obtain ⟨n0, k0, r0, w0⟩ := DataW.trod_int Tryz.underlying21 h0
 obtain ⟨m, n1, rfl, rfl, w1, w2⟩ := cells_marks h1
 obtain ⟨n3, k3, r3, w3⟩ := DataW.trod_int Tryz.underlying5 h2
 obtain ⟨f, g, b, rfl, rfl, rfl, w4, w5, w6⟩ := cells_pen h3
 simp at k0 k3
 subst k0 k3
 obtain ⟨d, rfl, w7⟩ := u8_nat w3
 exact ⟨n0, m, n1, d, f, g, b, rfl, i32_R w0, w1, w2, w7, w4, w5, w6⟩
theorem open_cell {r : Reach} {b0 : Nat} {v : Value} {x : DataW H} {p : List MemPlace} (hv : Value.okWide Tryz.prog w r b0 65 v) (h : DataW.Trod enc Tryz.prog w base spare held 65 v x p) :
  ∃ (r m n : Int) (d f g b : Nat), v = .agg #[.int .i32 r, .int .i32 m, .int .i32 n, .int .u8 d, .int .u8 f, .int .u8 g, .int .u8 b] ∧ CelOk r m n d f g b := by
 obtain ⟨f0, f1, f2, f3, hu, -⟩ := structCell
 obtain ⟨cs, rfl, hsz⟩ := okWide_struct hu hv
 obtain ⟨c0, c1, c2, c3, c4, c5, c6, rfl⟩ := array7 (hsz.trans sizeCell)
 obtain ⟨fuel, hf⟩ := h
 obtain ⟨r, m, n, d, f, g, b, e, ok⟩ := cells_cell hf
 simp only [List.cons.injEq, and_true] at e
 obtain ⟨rfl, rfl, rfl, rfl, rfl, rfl, rfl⟩ := e
 exact ⟨r, m, n, d, f, g, b, rfl, ok⟩
end
theorem cels_of_each {k : IntKind} {w : World} {b off n : Nat} {F : Nat → Cel} (h : ∀ i, i < n → ∀ d v, (cellL k (F i))[d]? = some v → w.cell? ⟨b, off + (i * 7 + d), none⟩ = some v) : Cels k w (some ⟨b, off, none⟩) (tab n F) := by
 refine .inr ⟨b, off, rfl, fun j v hj => ?_⟩
 have hl : j < n * 7 := by have := (List.getElem?_eq_some_iff.1 hj).1; rwa [flatC_len, tab_len] at this
 have e : j = j / 7 * 7 + j % 7 := by omega
 have hq : j / 7 < n := by omega
 have hd : j % 7 < 7 := by omega
 rw [e, flatC_get k _ _ _ hd, tab_get _ _ _ hq] at hj
 have := h (j / 7) hq (j % 7) v hj
 rwa [← e] at this
theorem list7 {α : Type} {cs : List α} (h : cs.length = 7) : ∃ c0 c1 c2 c3 c4 c5 c6, cs = [c0, c1, c2, c3, c4, c5, c6] := by
 match cs, h with
 | [c0, c1, c2, c3, c4, c5, c6], _ => exact ⟨c0, c1, c2, c3, c4, c5, c6, rfl⟩
section
variable {H : Type} {enc : TypeId × Value → H} {w : World} {base : Nat} {spare : Nat → Bool} {held : Bool}
theorem open_line {a : Option Addr} {len cap : Nat} {x : DataW H} {p : List MemPlace} (h : DataW.Trod enc Tryz.prog w base spare held 45 (.slice a len cap) x p) : ∃ cs, LineIn w a len cap cs := by
 obtain ⟨fuel, hf⟩ := h
 rcases Deep.open_slice Tryz.underlying45 hf with ⟨hcs, _⟩ | ⟨ad, l, c, m, n, D, Pl, hcs, hb, hl, hm, hmm, _, hel⟩
 ·simp [Value.cells] at hcs
  obtain ⟨rfl, rfl, rfl⟩ := hcs
  exact ⟨[], .nil, Nat.le_refl _, Nat.le_refl _, fun _ => rfl, fun i hi => by cases hi⟩
 ·simp [Value.cells] at hcs
  obtain ⟨rfl, rfl, rfl⟩ := hcs
  have hlm : len ≤ m := by rw [hmm]; split <;> omega
  rw [sizeCell] at hel
  have each : ∀ i, i < len → ∃ c : Cel, CelB c ∧ ∀ d v, (cellL .i32 c)[d]? = some v → w.cell? ((ad.add (i * 7)).add d) = some v := by
   intro i hi
   obtain ⟨cs', h1, h2⟩ := hel i (by omega)
   obtain ⟨-, h3, h4⟩ := World.cells?_some h1
   obtain ⟨c0, c1, c2, c3, c4, c5, c6, rfl⟩ := list7 h3
   obtain ⟨r, q, y, z, f, g, b, e, ok⟩ := cells_cell h2
   refine ⟨⟨r, q, y, z, ⟨f, g, b⟩⟩, ⟨ok.1, ok.2.1, ok.2.2.1, ok.2.2.2.1⟩, fun d v hv => ?_⟩
   have hd : d < 7 := (List.getElem?_eq_some_iff.1 hv).1
   rw [h4 d hd, e]
   exact hv
  by_cases h0 : len = 0
  ·subst h0
   exact ⟨[], .nil, Nat.le_refl _, hl, (fun h => by cases h), fun i hi => by cases hi⟩
  ·obtain ⟨c0, _, hc0⟩ := each 0 (by omega)
   have hs : ad.spot = none := by
    have := World.cell?_spot (hc0 0 _ rfl)
    simpa [Addr.add] using this
   obtain ⟨b, off, spot⟩ := ad
   simp only at hs
   subst hs
   have hadd : ∀ i j, ((⟨b, off, none⟩ : Addr).add i).add j = ⟨b, off + (i + j), none⟩ := by
    intro i j
    have e1 : ∀ (o q : Nat), (⟨b, o, none⟩ : Addr).add q = ⟨b, o + q, none⟩ := fun o q => by unfold Addr.add; split <;> simp_all
    rw [e1, e1, Nat.add_assoc]
   have each2 : ∀ i : Nat, ∃ c : Cel, i < len → CelB c ∧ ∀ d v, (cellL .i32 c)[d]? = some v → w.cell? ⟨b, off + (i * 7 + d), none⟩ = some v := by
    intro i
    by_cases hi : i < len
    ·obtain ⟨c, h1, h2⟩ := each i hi
     exact ⟨c, fun _ => ⟨h1, fun d v hv => by rw [← hadd]; exact h2 d v hv⟩⟩
    ·exact ⟨zeroC, fun q => absurd q hi⟩
   let F : Nat → Cel := fun i => Classical.choose (each2 i)
   have hF : ∀ i, i < len → CelB (F i) ∧ ∀ d v, (cellL .i32 (F i))[d]? = some v → w.cell? ⟨b, off + (i * 7 + d), none⟩ = some v := fun i hi => Classical.choose_spec (each2 i) hi
   exact ⟨tab len F, cels_of_each fun i hi => (hF i hi).2, by rw [tab_len]; exact Nat.le_refl _, hl, (fun h => by cases h), LB_tab fun i hi => (hF i hi).1⟩
end
end
section
open Go.ChangeShapes Go.WideShapes Go.ChangeAt Go.RowKit
theorem Whole.ne {w : World} {a b : Nat} {t t' : TypeId} {l l' : List Value} (h : Whole w a t l) (k : Whole w b t' l') (ht : t ≠ t') : a ≠ b := by
 rintro rfl
 unfold Whole at h k
 rw [h] at k
 simp only [Option.some.injEq, Obj.cells.injEq] at k
 exact ht k.2.1
theorem Whole.same {w w' : World} {g : Nat} {t : TypeId} {l : List Value} (h : Whole w g t l) (e : w'.heap[g]? = w.heap[g]?) : Whole w' g t l := e.trans h
structure Trn (G L M : Nat) (w w' : World) : Prop where
 os : w'.os = w.os
 tape : w'.tape = w.tape
 output : w'.output = w.output
 size : w.heap.size ≤ w'.heap.size
 block : ∀ i, i < w.heap.size → i ≠ G → i ≠ L → i ≠ M → w'.heap[i]? = w.heap[i]?
section
variable {G L M L' : Nat} {w w' w'' : World}
theorem Trn.refl : Trn G L M w w := ⟨rfl, rfl, rfl, Nat.le_refl _, fun _ _ _ _ _ => rfl⟩
theorem Trn.trans (h : Trn G L M w w') (k : Trn G L' M w' w'') (hL : L' = L ∨ w.heap.size ≤ L') : Trn G L M w w'' :=
 ⟨k.os.trans h.os, k.tape.trans h.tape, k.output.trans h.output, Nat.le_trans h.size k.size, fun i hi h1 h2 h3 => (k.block i (Nat.lt_of_lt_of_le hi h.size) h1 (by rcases hL with rfl | q; exact h2; omega) h3).trans (h.block i hi h1 h2 h3)⟩
theorem Trn.of_below (h : Below w.heap.size w w') : Trn G L M w w' := ⟨h.os, h.tape, h.output, h.size, fun i hi _ _ _ => h.block i hi⟩
theorem Trn.of_onlyM (h : Only M w w') : Trn G L M w w' := ⟨h.os, h.tape, h.output, h.size, fun i hi _ _ h3 => h.block i hi (by simpa using h3)⟩
theorem Trn.of_onlyG (h : Only G w w') : Trn G L M w w' := ⟨h.os, h.tape, h.output, h.size, fun i hi h1 _ _ => h.block i hi (by simpa using h1)⟩
theorem Trn.below {B : Nat} {a : World} (h : Trn G L M w w') (hb : Below B a w) (hB : B ≤ w.heap.size) (hG : B ≤ G) (hL : B ≤ L) (hM : B ≤ M) : Below B a w' :=
 ⟨h.os.trans hb.os, h.tape.trans hb.tape, h.output.trans hb.output, Nat.le_trans hb.size h.size, fun i hi => (h.block i (by omega) (by omega) (by omega) (by omega)).trans (hb.block i hi)⟩
theorem Trn.whole (h : Trn G L M w w') {g : Nat} {t : TypeId} {l : List Value} (hw : Whole w g t l) (h1 : g ≠ G) (h2 : g ≠ L) (h3 : g ≠ M) : Whole w' g t l := hw.same (h.block g hw.lt h1 h2 h3)
end
def rowV (M C : Nat) (ps : Nat → Nat) (i : Nat) : Value := .slice (some ⟨M, ps i * C * 7, none⟩) C C
def rowsV (M C : Nat) (ps : Nat → Nat) (R : Nat) : List Value := (List.range R).map (rowV M C ps)
theorem rowsV_len (M C : Nat) (ps : Nat → Nat) (R : Nat) : (rowsV M C ps R).length = R := by simp [rowsV]
theorem rowsV_get (M C : Nat) (ps : Nat → Nat) (R i : Nat) (h : i < R) : (rowsV M C ps R)[i]? = some (rowV M C ps i) := by simp [rowsV, h]
def partC (room : List Cel) (C q : Nat) : List Cel := (room.drop (q * C)).take C
theorem part_tab (room : List Cel) (C q : Nat) (h : q * C + C ≤ room.length) : partC room C q = tab C (fun i => cAt room (q * C + i)) := by
 refine tab_is (by unfold partC; rw [List.length_take, List.length_drop]; omega) fun i hi => ?_
 unfold partC cAt
 simp [hi]
theorem part_len (room : List Cel) (C q : Nat) (h : q * C + C ≤ room.length) : (partC room C q).length = C := by rw [part_tab room C q h, tab_len]
theorem mul_room {q R C n : Nat} (hq : q < R) (hn : n = R * C) : q * C + C ≤ n := by
 have : (q + 1) * C ≤ R * C := Nat.mul_le_mul_right _ hq
 rw [Nat.add_mul, Nat.one_mul] at this
 omega
theorem part_lay (room xs : List Cel) (C q r R : Nat) (hr : r < R) (hq : q < R) (hn : room.length = R * C) (hx : xs.length = C) : partC (layC room (r * C) xs) C q = if q = r then xs else partC room C q := by
 have h1 := mul_room hr hn
 have h2 := mul_room hq hn
 have hl : (layC room (r * C) xs).length = room.length := lay_len room (r * C) xs (by omega)
 rw [part_tab _ C q (by omega), lay_tab room (r * C) xs (by omega)]
 have key : ∀ i, i < C → cAt (tab room.length fun i => if r * C ≤ i ∧ i < r * C + xs.length then cAt xs (i - r * C) else cAt room i) (q * C + i) = if r * C ≤ q * C + i ∧ q * C + i < r * C + C then cAt xs (q * C + i - r * C) else cAt room (q * C + i) := by
  intro i hi
  rw [tab_cAt _ _ _ (by omega), hx]
 rw [tab_eq key]
 split
 ·rename_i e
  subst e
  refine (tab_is hx fun i hi => ?_).symm
  rw [if_pos (by omega), show q * C + i - q * C = i by omega]
 ·rename_i e
  rw [part_tab room C q h2]
  refine tab_eq fun i hi => ?_
  rw [if_neg ?_]
  rcases Nat.lt_or_gt_of_ne e with g | g
  ·have := mul_room (C := C) g rfl
   omega
  ·have := mul_room (C := C) g rfl
   omega
structure GridAt (w : World) (G L M R C : Nat) (g : Gd) (cap : Nat) (ps : Nat → Nat) (room : List Cel) (more : List Value) : Prop where
 top : Whole w G 102 [.int .i64 g.row, .int .i64 g.col, .slice (some ⟨L, 0, none⟩) R cap]
 lines : Whole w L 45 (rowsV M C ps R ++ more)
 piece : Whole w M 65 (flatC .i32 room)
 len : room.length = R * C
 cap1 : R ≤ cap
 cap2 : cap ≤ maxLen
 perm : ∀ i, i < R → ps i < R
 inj : ∀ i j, i < R → j < R → ps i = ps j → i = j
 ls : g.ls = gtab R (fun i => partC room C (ps i))
def Grd (w : World) (G L M R C : Nat) (g : Gd) : Prop := ∃ cap ps room more, GridAt w G L M R C g cap ps room more
section
variable {w w' : World} {G L M R C : Nat} {g : Gd} {cap : Nat} {ps : Nat → Nat} {room : List Cel} {more : List Value}
theorem GridAt.neGL (h : GridAt w G L M R C g cap ps room more) : G ≠ L := h.top.ne h.lines (by decide)
theorem GridAt.neGM (h : GridAt w G L M R C g cap ps room more) : G ≠ M := h.top.ne h.piece (by decide)
theorem GridAt.neLM (h : GridAt w G L M R C g cap ps room more) : L ≠ M := h.lines.ne h.piece (by decide)
theorem GridAt.row (h : GridAt w G L M R C g cap ps room more) {i : Nat} (hi : i < R) : w.cell? ⟨L, i, none⟩ = some (.slice (some ⟨M, ps i * C * 7, none⟩) C C) := by
 rw [h.lines.cell, List.getElem?_append_left (by rw [rowsV_len]; exact hi), rowsV_get _ _ _ _ _ hi]
 rfl
theorem GridAt.lAt (h : GridAt w G L M R C g cap ps room more) {i : Nat} (hi : i < R) : lAt g.ls i = partC room C (ps i) := by rw [h.ls, gtab_lAt _ _ _ hi]
theorem GridAt.lenAt (h : GridAt w G L M R C g cap ps room more) {i : Nat} (hi : i < R) : (Proofs.YtoddfaoifnkhlaaGreatDoor.lAt g.ls i).length = C := by rw [h.lAt hi]; exact part_len _ _ _ (mul_room (h.perm i hi) h.len)
theorem GridAt.glen (h : GridAt w G L M R C g cap ps room more) : g.ls.length = R := by rw [h.ls, gtab_len]
theorem GridAt.cels (h : GridAt w G L M R C g cap ps room more) {i : Nat} (hi : i < R) : Cels .i32 w (some ⟨M, ps i * C * 7, none⟩) (Proofs.YtoddfaoifnkhlaaGreatDoor.lAt g.ls i) := by
 refine .inr ⟨M, ps i * C * 7, rfl, fun j v hj => ?_⟩
 rw [h.lAt hi] at hj
 unfold partC at hj
 rw [flatC_take, List.getElem?_take] at hj
 split at hj
 ·rw [flatC_drop, List.getElem?_drop] at hj
  rw [h.piece.cell, hj]
 ·cases hj
theorem GridAt.same (h : GridAt w G L M R C g cap ps room more) (hG : w'.heap[G]? = w.heap[G]?) (hL : w'.heap[L]? = w.heap[L]?) (hM : w'.heap[M]? = w.heap[M]?) : GridAt w' G L M R C g cap ps room more :=
 ⟨h.top.same hG, h.lines.same hL, h.piece.same hM, h.len, h.cap1, h.cap2, h.perm, h.inj, h.ls⟩
theorem GridAt.later (h : GridAt w G L M R C g cap ps room more) (hb : Below w.heap.size w w') : GridAt w' G L M R C g cap ps room more :=
 h.same (hb.block _ h.top.lt) (hb.block _ h.lines.lt) (hb.block _ h.piece.lt)
theorem GridAt.lay (h : GridAt w G L M R C g cap ps room more) {r : Nat} (hr : r < R) (xs : List Cel) (hx : xs.length = C) (ho : Only M w w') (hw : Whole w' M 65 (flatC .i32 (layC room (ps r * C) xs))) :
  GridAt w' G L M R C { g with ls := g.ls.set r xs } cap ps (layC room (ps r * C) xs) more := by
 have hp := h.perm r hr
 have hm := mul_room hp h.len
 refine ⟨h.top.far ho h.neGM, h.lines.far ho h.neLM, hw, by rw [lay_len _ _ _ (by omega), h.len], h.cap1, h.cap2, h.perm, h.inj, ?_⟩
 show g.ls.set r xs = _
 rw [set_gtab, h.glen]
 refine gtab_eq fun i hi => ?_
 rw [part_lay room xs C (ps i) (ps r) R hp (h.perm i hi) h.len hx, h.lAt hi]
 by_cases e : i = r
 ·rw [if_pos e, if_pos (by rw [e])]
 ·rw [if_neg e, if_neg (fun q => e (h.inj i r hi hr q))]
theorem Grd.of (h : GridAt w G L M R C g cap ps room more) : Grd w G L M R C g := ⟨cap, ps, room, more, h⟩
theorem Grd.later (h : Grd w G L M R C g) (hb : Below w.heap.size w w') : Grd w' G L M R C g := by
 obtain ⟨cap, ps, room, more, h⟩ := h
 exact ⟨cap, ps, room, more, h.later hb⟩
theorem Grd.ltG (h : Grd w G L M R C g) : G < w.heap.size := by obtain ⟨_, _, _, _, h⟩ := h; exact h.top.lt
theorem Grd.ltL (h : Grd w G L M R C g) : L < w.heap.size := by obtain ⟨_, _, _, _, h⟩ := h; exact h.lines.lt
theorem Grd.ltM (h : Grd w G L M R C g) : M < w.heap.size := by obtain ⟨_, _, _, _, h⟩ := h; exact h.piece.lt
theorem Grd.glen (h : Grd w G L M R C g) : g.ls.length = R := by obtain ⟨_, _, _, _, h⟩ := h; exact h.glen
theorem Grd.far {G' L' M' : Nat} (h : Grd w G L M R C g) (ht : Trn G' L' M' w w') (hG : G ≠ G' ∧ G ≠ L' ∧ G ≠ M') (hL : L ≠ G' ∧ L ≠ L' ∧ L ≠ M') (hM : M ≠ G' ∧ M ≠ L' ∧ M ≠ M') : Grd w' G L M R C g := by
 obtain ⟨cap, ps, room, more, h⟩ := h
 exact ⟨cap, ps, room, more, h.same (ht.block _ h.top.lt hG.1 hG.2.1 hG.2.2) (ht.block _ h.lines.lt hL.1 hL.2.1 hL.2.2) (ht.block _ h.piece.lt hM.1 hM.2.1 hM.2.2)⟩
theorem Grd.cursor (h : Grd w G L M R C g) : w.cell? ⟨G, 0, none⟩ = some (.int .i64 g.row) ∧ w.cell? ⟨G, 1, none⟩ = some (.int .i64 g.col) ∧ G < w.heap.size := by
 obtain ⟨cap, ps, room, more, h⟩ := h
 exact ⟨h.top.cell 0, h.top.cell 1, h.top.lt⟩
end
def Stays (t : TypeId) (w w' : World) : Prop := ∀ (b : Nat) (cur : Array Value), w.heap[b]? = some (Obj.cells cur t (0, 0)) → w'.heap[b]? = w.heap[b]?
theorem Stays.of_below {t : TypeId} {w w' : World} (h : Below w.heap.size w w') : Stays t w w' := fun b cur hb => h.block b (Array.getElem?_eq_some_iff.1 hb).1
theorem Stays.trans {t : TypeId} {w w' w'' : World} (h : Stays t w w') (k : Stays t w' w'') : Stays t w w'' := fun b cur hb => (k b cur ((h b cur hb).trans hb)).trans (h b cur hb)
theorem Stays.put {t t' : TypeId} {w : World} {g i : Nat} {l : List Value} {u : Value} (h : Whole w g t' l) (ht : t ≠ t') : Stays t w (w.setCell ⟨g, i, none⟩ u) := by
 intro b cur hb
 refine Below.heap_setCell _ _ _ _ ?_
 rintro rfl
 unfold Whole at h
 rw [hb] at h
 simp only [Option.some.injEq, Obj.cells.injEq] at h
 exact ht h.2.1
def RowOk (w : World) (x : Value) (z : List Cel) : Prop := ∃ A c, x = .slice A z.length c ∧ (A = none → c = 0) ∧ z.length ≤ c ∧ (z = [] ∨ ∃ b off cur, A = some ⟨b, off, none⟩ ∧ w.heap[b]? = some (Obj.cells cur 95 (0, 0)) ∧ ∀ j v, (flatC .i64 z)[j]? = some v → w.cell? ⟨b, off + j, none⟩ = some v)
def Lns (w : World) (A : Option Addr) (ls : List (List Cel)) : Prop := ls = [] ∨ ∃ b cur, A = some ⟨b, 0, none⟩ ∧ w.heap[b]? = some (Obj.cells cur 85 (0, 0)) ∧ ∀ i, i < ls.length → ∃ x, cur[i]? = some x ∧ RowOk w x (lAt ls i)
section
variable {w w' : World} {A : Option Addr} {ls : List (List Cel)} {x : Value} {z : List Cel}
theorem RowOk.keep (h : RowOk w x z) (hb : Stays 95 w w') : RowOk w' x z := by
 obtain ⟨A, c, e, h0, hn, hc⟩ := h
 refine ⟨A, c, e, h0, hn, ?_⟩
 rcases hc with hc | ⟨b, off, cur, ha, hh, hc⟩
 ·exact .inl hc
 ·refine .inr ⟨b, off, cur, ha, (hb b cur hh).trans hh, fun j v hj => ?_⟩
  have := hc j v hj
  rw [cell_of_row _ b _ cur 95 (0, 0) hh] at this
  rw [cell_of_row _ b _ cur 95 (0, 0) ((hb b cur hh).trans hh), this]
theorem RowOk.one (h : RowOk w x z) : x.oneCell' = true := by obtain ⟨A, c, rfl, _⟩ := h; rfl
theorem RowOk.form (h : RowOk w x z) : ∃ A c, x = .slice A z.length c ∧ Cels .i64 w A z ∧ (A = none → c = 0) := by
 obtain ⟨A, c, e, h0, -, hc⟩ := h
 refine ⟨A, c, e, ?_, h0⟩
 rcases hc with hc | ⟨b, off, cur, ha, hh, hc⟩
 ·exact .inl hc
 ·exact .inr ⟨b, off, ha, hc⟩
theorem RowOk.capOf {n c : Nat} (h : RowOk w (.slice A n c) z) : z.length ≤ c := by
 obtain ⟨A', c', e, _, hn, _⟩ := h
 cases e
 exact hn
theorem OwnC.rowOk {B : Nat} {w0 : World} (h : OwnC 95 .i64 B w0 w x z) : RowOk w x z := by
 rcases h.own.2 with ⟨rfl, h0⟩ | ⟨g, cap, cur, rfl, _, hh, hc, hm, _, _⟩
 ·have : z = [] := List.eq_nil_of_length_eq_zero h0
  subst this
  exact ⟨none, 0, rfl, fun _ => rfl, Nat.le_refl _, .inl rfl⟩
 ·refine ⟨_, cap, rfl, (fun h => by cases h), hc, .inr ⟨g, 0, cur, rfl, hh, fun i v hi => ?_⟩⟩
  have := h.own.cells (g := g) rfl i v hi
  rwa [show (⟨g, 0, none⟩ : Addr).add i = ⟨g, 0 + i, none⟩ by unfold Addr.add; split <;> simp_all] at this
theorem Lns.keep (h : Lns w A ls) (hb : Stays 95 w w') (hl : Stays 85 w w') : Lns w' A ls := by
 rcases h with h | ⟨b, cur, ha, hh, hc⟩
 ·exact .inl h
 ·refine .inr ⟨b, cur, ha, (hl b cur hh).trans hh, fun i hi => ?_⟩
  obtain ⟨x, h1, h2⟩ := hc i hi
  exact ⟨x, h1, h2.keep hb⟩
theorem Lns.below (h : Lns w A ls) (hb : Below w.heap.size w w') : Lns w' A ls := h.keep (.of_below hb) (.of_below hb)
theorem Lns.alloc (h : Lns w A ls) (o : Obj) : Lns (w.alloc o) A ls := h.below ((Below.refl _ _).alloc (Nat.le_refl _) _)
theorem Lns.drewN (h : Lns w A ls) (n : Nat) : Lns (w.drewN n) A ls := h.below ((Below.refl _ _).drewN n)
theorem Lns.at (h : Lns w A ls) {i : Nat} (hi : i < ls.length) : ∃ b A' c', A = some ⟨b, 0, none⟩ ∧ b < w.heap.size ∧ w.cell? ⟨b, i, none⟩ = some (.slice A' (lAt ls i).length c') ∧ RowOk w (.slice A' (lAt ls i).length c') (lAt ls i) ∧ Cels .i64 w A' (lAt ls i) ∧ (A' = none → c' = 0) := by
 rcases h with rfl | ⟨b, cur, ha, hh, hc⟩
 ·simp at hi
 ·obtain ⟨x, h1, h2⟩ := hc i hi
  obtain ⟨A', c', rfl, h3, h4⟩ := h2.form
  refine ⟨b, A', c', ha, (Array.getElem?_eq_some_iff.1 hh).1, ?_, h2, h3, h4⟩
  rw [cell_of_row _ b _ cur 85 (0, 0) hh, h1]
end
section
variable {w w' : World} {G L M R C : Nat} {g : Gd}
theorem Grd.stays (h : Grd w G L M R C g) (ht : Trn G L M w w') {t : TypeId} (h1 : t ≠ 102) (h2 : t ≠ 45) (h3 : t ≠ 65) : Stays t w w' := by
 obtain ⟨cap, ps, room, more, h⟩ := h
 intro b cur hb
 have hw : Whole w b t cur.toList := by unfold Whole; simpa using hb
 exact ht.block b hw.lt (hw.ne h.top h1) (hw.ne h.lines h2) (hw.ne h.piece h3)
theorem Lns.turn {A : Option Addr} {ls : List (List Cel)} (h : Lns w A ls) (hg : Grd w G L M R C g) (ht : Trn G L M w w') : Lns w' A ls :=
 h.keep (hg.stays ht (by decide) (by decide) (by decide)) (hg.stays ht (by decide) (by decide) (by decide))
end
structure RwsC (B : Nat) (w wr : World) (v : Value) (zss : List (List Cel)) : Prop where
 row : ∃ xs : List Value, wr.ownsRow B 85 1 v zss.length xs ∧ ∀ (i : Nat) (x : Value) (z : List Cel), xs[i]? = some x → zss[i]? = some z → RowOk wr x z
 bel : Below B w wr
 le : B ≤ wr.heap.size
section
variable {B : Nat} {w wr w1 : World} {v : Value} {zss : List (List Cel)}
theorem RwsC.start (hB : B ≤ w.heap.size) : RwsC B w w (.slice none 0 0) [] := ⟨⟨[], World.ownsRow_nil _ _ _ _, fun i x z h => by simp at h⟩, Below.refl _ _, hB⟩
theorem RwsC.from0 (hB : B ≤ wr.heap.size) (hb : Below B w wr) : RwsC B w wr (.slice none 0 0) [] := ⟨⟨[], World.ownsRow_nil _ _ _ _, fun i x z h => by simp at h⟩, hb, hB⟩
theorem RwsC.later (h : RwsC B w wr v zss) (hb : Below wr.heap.size wr w1) : RwsC B w w1 v zss := by
 obtain ⟨xs, ho, hc⟩ := h.row
 refine ⟨⟨xs, ⟨ho.1, ?_⟩, fun i x z h1 h2 => (hc i x z h1 h2).keep (.of_below hb)⟩, h.bel.trans (hb.mono h.le), Nat.le_trans h.le hb.size⟩
 rcases ho.2 with h0 | ⟨g, cap, cur, hv, hB, hh, h1⟩
 ·exact .inl h0
 ·exact .inr ⟨g, cap, cur, hv, hB, by rw [hb.block g (Array.getElem?_eq_some_iff.1 hh).1, hh], h1⟩
theorem RwsC.alloc (h : RwsC B w wr v zss) (o : Obj) : RwsC B w (wr.alloc o) v zss := h.later ((Below.refl _ _).alloc (Nat.le_refl _) _)
theorem RwsC.put (h : RwsC B w wr v zss) {g i : Nat} {t : TypeId} {l : List Value} {u : Value} (hw : Whole wr g t l) (h1 : t ≠ 95) (h2 : t ≠ 85) (hg : B ≤ g) : RwsC B w (wr.setCell ⟨g, i, none⟩ u) v zss := by
 obtain ⟨xs, ho, hc⟩ := h.row
 have hs1 : Stays 95 wr (wr.setCell ⟨g, i, none⟩ u) := Stays.put hw (Ne.symm h1)
 have hs2 : Stays 85 wr (wr.setCell ⟨g, i, none⟩ u) := Stays.put hw (Ne.symm h2)
 refine ⟨⟨xs, ⟨ho.1, ?_⟩, fun i x z h1 h2 => (hc i x z h1 h2).keep hs1⟩, h.bel.setCell (p := ⟨g, i, none⟩) hg u, by simpa [World.setCell] using h.le⟩
 rcases ho.2 with h0 | ⟨g', cap, cur, hv, hB, hh, h3⟩
 ·exact .inl h0
 ·exact .inr ⟨g', cap, cur, hv, hB, (hs2 g' cur hh).trans hh, h3⟩
theorem RwsC.form (h : RwsC B w wr v zss) : ∃ A cap, v = .slice A zss.length cap ∧ zss.length ≤ cap ∧ cap ≤ maxLen ∧ (A = none → cap = 0) ∧ Lns wr A zss := by
 obtain ⟨xs, ho, hc⟩ := h.row
 have hxl : xs.length = zss.length := by have := ho.1; omega
 rcases ho.2 with ⟨rfl, h0⟩ | ⟨g, cap, cur, rfl, _, hh, hcap, hm, hcs, htake⟩
 ·have : zss = [] := List.eq_nil_of_length_eq_zero h0
  subst this
  exact ⟨none, 0, rfl, Nat.le_refl _, Nat.zero_le _, (fun _ => rfl), .inl rfl⟩
 ·refine ⟨_, cap, rfl, hcap, hm, (fun h => by cases h), .inr ⟨g, cur, rfl, hh, fun i hi => ?_⟩⟩
  have hx : xs[i]? = some xs[i] := List.getElem?_eq_getElem (by omega)
  refine ⟨xs[i], ?_, hc i _ _ hx (get_lAt zss i hi)⟩
  have := ho.cellAt i (by omega)
  rw [cell_of_row _ g i cur 85 (0, 0) hh, hx] at this
  exact this
end
theorem elemRC : ElemR Tryz.prog 24 85 := ⟨Tryz.underlying24, by kernel_rfl⟩
theorem elemRL : ElemR Tryz.prog 100 45 := ⟨Tryz.underlying100, by kernel_rfl⟩
theorem wpList_pushL {ops : Array Oper} {rest : List Oper} {o : Oper} {a : Act} {Q : Exit → Act → World → Prop} {B : Nat} {w wr : World} {v x : Value} {zss : List (List Cel)} {z : List Cel}
  (hgd : Region.wanted o (yielded ops a.tmps) = true) (s y : Operand) (ho : o.op = .call { callee := .builtin .append, args := #[s, y], argTypes := #[24, 24] })
  (hs : a.eval s = v) (hy : a.eval y = .slice (some ⟨wr.heap.size, 0, none⟩) 1 1) (hown : RwsC B w wr v zss) (hx : RowOk wr x z) (hlen : zss.length ≤ 1000000)
  (h : ∀ v' w1, RwsC B w w1 v' (zss ++ [z]) → (∀ q t l, t ≠ 85 → Whole wr q t l → Whole w1 q t l) → wpList Tryz.prog ops Q rest (a.put o.dst v') w1) : wpList Tryz.prog ops Q (o :: rest) a (wr.alloc (.cells #[x] 85)) := by
 obtain ⟨i0, hi, hz0, hz1, hz2⟩ := info_parts elemRC.info
 obtain ⟨xs, hrow, hcl⟩ := (hown.alloc (.cells #[x] 85)).row
 have hxl : xs.length = zss.length := by have := hrow.1; omega
 have hle := (hown.alloc (.cells #[x] 85)).le
 refine wpList_want hgd fun K hK => ?_
 refine wp_append_own _ s y 24 ho B 85 i0 (.slice none 0 0) 1 24 elemRC.under hi hz0 hz1 hz2 rfl (by decide) v zss.length xs hs hrow ⟨wr.heap.size, 0, none⟩ 1 1 [x] hy rfl (cell_one_new _ _ _) (by intro u hu; simp at hu; subst hu; exact hx.one)
  (by unfold maxLen; omega) (by omega) hle ?_
 intro v' w1 h1 hg _
 have far : ∀ t, t ≠ 85 → Stays t (wr.alloc (.cells #[x] 85)) w1 := by
  intro t ht g cur hh
  refine hg.block g (Array.getElem?_eq_some_iff.1 hh).1 ?_
  intro q
  rcases hrow.2 with ⟨rfl, _⟩ | ⟨g2, cap, cur2, rfl, _, hh2, _⟩
  ·cases q
  ·have : g = g2 := by simpa [Value.ownBlock] using q
   subst this
   rw [hh] at hh2
   simp only [Option.some.injEq, Obj.cells.injEq] at hh2
   exact ht hh2.2.1
 refine hK _ _ (h v' w1 ⟨⟨xs ++ [x], by simpa using h1, ?_⟩, (hown.alloc _).bel.grown hg hle (own_ge hrow), Nat.le_trans hle hg.size⟩ ?_)
 ·intro i y' z' h2 h3
  by_cases hi' : i < zss.length
  ·rw [List.getElem?_append_left (by omega)] at h2
   rw [List.getElem?_append_left hi'] at h3
   exact (hcl i y' z' h2 h3).keep (far _ (by decide))
  ·rw [List.getElem?_append_right (by omega)] at h2 h3
   rw [hxl] at h2
   cases hq : i - zss.length with
   | zero =>
    rw [hq] at h2 h3
    simp at h2 h3
    subst h2 h3
    exact (hx.keep (.of_below ((Below.refl _ _).alloc (Nat.le_refl _) _))).keep (far _ (by decide))
   | succ q => rw [hq] at h2; simp at h2
 ·intro q t l ht hw
  have hw' := hw.alloc (.cells #[x] 85)
  exact hw'.same (far t ht q l.toArray (by simpa [Whole] using hw'))
theorem retG {R : Ending → World → Prop} {a : Act} {w : World} {fn : Func} {s : Nat} {q : Nat} {x0 x1 x2 : Value} (hr : fn.results = #[.cell s 26]) (h4 : a.tmps.getD s undef = .pointer (some ⟨q, 0, none⟩)) (hd : a.defers = [])
  (hw : Whole w q 26 [x0, x1, x2]) (hR : R (.returned (.agg #[x0, x1, x2])) w) : bodyPost Tryz.prog fn R .ret a w := by
 have c0 : w.cell? ⟨q, 0, none⟩ = some x0 := hw.cell 0
 have c1 : w.cell? ⟨q, 1, none⟩ = some x1 := hw.cell 1
 have c2 : w.cell? ⟨q, 2, none⟩ = some x2 := hw.cell 2
 clear hw
 rw [Array.getD_eq_getD_getElem?] at h4
 exact bodyPost_ret (v := .agg #[x0, x1, x2]) (by simp [results, hr, h4, c0, c1, c2, go_sem]) hd hR
theorem retG2 {R : Ending → World → Prop} {a : Act} {w : World} {fn : Func} {s u : Nat} {q : Nat} {x0 x1 x2 v : Value} (hr : fn.results = #[.cell s 26, .tmp u]) (h4 : a.tmps.getD s undef = .pointer (some ⟨q, 0, none⟩)) (h5 : a.tmps.getD u undef = v) (hd : a.defers = [])
  (hw : Whole w q 26 [x0, x1, x2]) (hR : R (.returned (.tuple #[.agg #[x0, x1, x2], v])) w) : bodyPost Tryz.prog fn R .ret a w := by
 have c0 : w.cell? ⟨q, 0, none⟩ = some x0 := hw.cell 0
 have c1 : w.cell? ⟨q, 1, none⟩ = some x1 := hw.cell 1
 have c2 : w.cell? ⟨q, 2, none⟩ = some x2 := hw.cell 2
 clear hw
 rw [Array.getD_eq_getD_getElem?] at h4 h5
 exact bodyPost_ret (v := .tuple #[.agg #[x0, x1, x2], v]) (by simp [results, hr, h4, h5, c0, c1, c2, go_sem]) hd hR
theorem put3 {w : World} {q : Nat} {t : TypeId} {y0 y1 y2 : Value} (hw : Whole w q t [y0, y1, y2]) (x0 x1 x2 : Value) : Whole (((w.setCell ⟨q, 0, none⟩ x0).setCell ⟨q, 1, none⟩ x1).setCell ⟨q, 2, none⟩ x2) q t [x0, x1, x2] := ((hw.put 0 x0).put 1 x1).put 2 x2
theorem below_put3 {B : Nat} {W w : World} {q : Nat} (h : Below B W w) (hq : B ≤ q) (x0 x1 x2 : Value) : Below B W (((w.setCell ⟨q, 0, none⟩ x0).setCell ⟨q, 1, none⟩ x1).setCell ⟨q, 2, none⟩ x2) :=
 ((h.setCell (p := ⟨q, 0, none⟩) hq x0).setCell (p := ⟨q, 1, none⟩) hq x1).setCell (p := ⟨q, 2, none⟩) hq x2
theorem GridAt.three {w : World} {G L M R C : Nat} {g : Gd} {cap : Nat} {ps : Nat → Nat} {room : List Cel} {more : List Value} (h : GridAt w G L M R C g cap ps room more) :
  w.cell? ⟨G, 0, none⟩ = some (.int .i64 g.row) ∧ w.cell? ⟨G, 1, none⟩ = some (.int .i64 g.col) ∧ w.cell? ⟨G, 2, none⟩ = some (.slice (some ⟨L, 0, none⟩) R cap) ∧ G < w.heap.size ∧ L < w.heap.size ∧ M < w.heap.size := ⟨h.top.cell 0, h.top.cell 1, h.top.cell 2, h.top.lt, h.lines.lt, h.piece.lt⟩
section
variable {w : World} {G L M R C : Nat} {g : Gd}
theorem has_any (h : Grd w G L M R C g) (r : Int) : Calls Tryz.prog 73 #[.pointer (some ⟨G, 0, none⟩), .int .i64 r] w fun e w' => e = .returned (.bool (decide (hasG R r))) ∧ w = w' := by
 obtain ⟨cap, ps, room, more, h⟩ := h
 obtain ⟨c0, c1, c2, lG, -, -⟩ := h.three
 clear h
 by_cases h0 : 0 ≤ r
 ·by_cases h1 : r < (R : Int)
  ·have HD : Hid (decide (hasG R r) = true) := by unfold Hid hasG; simp [h0, h1]
   go_enter Tryz.func73, Tryz.ntmps73
   go_wp2; go_ret
   exact ⟨ret_bool HD.out.symm, rfl⟩
  ·have HD : Hid (decide (hasG R r) = false) := by unfold Hid hasG; simp [h1]
   go_enter Tryz.func73, Tryz.ntmps73
   go_wp2; go_ret
   exact ⟨ret_bool HD.out.symm, rfl⟩
 ·have HD : Hid (decide (hasG R r) = false) := by unfold Hid hasG; simp [h0]
  go_enter Tryz.func73, Tryz.ntmps73
  go_wp2; go_ret
  exact ⟨ret_bool HD.out.symm, rfl⟩
theorem has_nil (r : Int) (w : World) : Calls Tryz.prog 73 #[.pointer none, .int .i64 r] w fun e w' => e = .returned (.bool false) ∧ w = w' := by
 go_enter Tryz.func73, Tryz.ntmps73
 go_wp2; go_ret
 exact ⟨rfl, rfl⟩
def sideB (n : Int) : Bool := decide (1 ≤ n ∧ n ≤ 512)
theorem side_any (n : Int) (w : World) : Calls Tryz.prog 70 #[.int .i64 n] w fun e w' => e = .returned (.bool (sideB n)) ∧ w = w' := by
 by_cases h0 : 1 ≤ n
 ·by_cases h1 : n ≤ 512
  ·have HD : Hid (sideB n = true) := by unfold Hid sideB; simp [h0, h1]
   go_enter Tryz.func70, Tryz.ntmps70
   go_wp2; go_ret
   exact ⟨ret_bool HD.out.symm, rfl⟩
  ·have HD : Hid (sideB n = false) := by unfold Hid sideB; simp [h1]
   go_enter Tryz.func70, Tryz.ntmps70
   go_wp2; go_ret
   exact ⟨ret_bool HD.out.symm, rfl⟩
 ·have HD : Hid (sideB n = false) := by unfold Hid sideB; simp [h0]
  go_enter Tryz.func70, Tryz.ntmps70
  go_wp2; go_ret
  exact ⟨ret_bool HD.out.symm, rfl⟩
theorem rows_any (h : Grd w G L M R C g) : Calls Tryz.prog 26 #[.pointer (some ⟨G, 0, none⟩)] w fun e w' => e = .returned (.int .i64 R) ∧ w = w' := by
 obtain ⟨cap, ps, room, more, h⟩ := h
 obtain ⟨c0, c1, c2, lG, -, -⟩ := h.three
 clear h
 go_enter Tryz.func26, Tryz.ntmps26
 go_wp2; go_ret
 exact ⟨rfl, rfl⟩
theorem rows_nil (w : World) : Calls Tryz.prog 26 #[.pointer none] w fun e w' => e = .returned (.int .i64 0) ∧ w = w' := by
 go_enter Tryz.func26, Tryz.ntmps26
 go_wp2; go_ret
 exact ⟨rfl, rfl⟩
theorem row_any (h : Grd w G L M R C g) : Calls Tryz.prog 30 #[.pointer (some ⟨G, 0, none⟩)] w fun e w' => e = .returned (.int .i64 g.row) ∧ w = w' := by
 obtain ⟨c0, c1, lG⟩ := h.cursor
 clear h
 go_enter Tryz.func30, Tryz.ntmps30
 go_wp2; go_ret
 exact ⟨rfl, rfl⟩
theorem row_nil (w : World) : Calls Tryz.prog 30 #[.pointer none] w fun e w' => e = .returned (.int .i64 0) ∧ w = w' := by
 go_enter Tryz.func30, Tryz.ntmps30
 go_wp2; go_ret
 exact ⟨rfl, rfl⟩
theorem col_any (h : Grd w G L M R C g) : Calls Tryz.prog 31 #[.pointer (some ⟨G, 0, none⟩)] w fun e w' => e = .returned (.int .i64 g.col) ∧ w = w' := by
 obtain ⟨c0, c1, lG⟩ := h.cursor
 clear h
 go_enter Tryz.func31, Tryz.ntmps31
 go_wp2; go_ret
 exact ⟨rfl, rfl⟩
theorem col_nil (w : World) : Calls Tryz.prog 31 #[.pointer none] w fun e w' => e = .returned (.int .i64 0) ∧ w = w' := by
 go_enter Tryz.func31, Tryz.ntmps31
 go_wp2; go_ret
 exact ⟨rfl, rfl⟩
theorem hasG_in {R : Nat} {r : Nat} (h : r < R) : decide (hasG R (r : Int)) = true := by unfold hasG; simp; omega
theorem hasG_0 {R : Nat} (h : 1 ≤ R) : decide (hasG R 0) = true := by unfold hasG; simp; omega
theorem cols_any (h : Grd w G L M R C g) (hR : 1 ≤ R) : Calls Tryz.prog 27 #[.pointer (some ⟨G, 0, none⟩)] w fun e w' => e = .returned (.int .i64 C) ∧ w = w' := by
 have HG := hide h
 obtain ⟨cap, ps, room, more, h⟩ := h
 obtain ⟨c0, c1, c2, lG, lL, lM⟩ := h.three
 have c3 := h.row (i := 0) (by omega)
 clear h
 go_enter Tryz.func27, Tryz.ntmps27
 go_wp2_with fail
 refine (has_any HG.out 0).mono ?_
 rintro e w1 ⟨rfl, rfl⟩
 rw [hasG_0 hR]
 go_wp2; go_ret
 exact ⟨rfl, rfl⟩
theorem cols_nil (w : World) : Calls Tryz.prog 27 #[.pointer none] w fun e w' => e = .returned (.int .i64 0) ∧ w = w' := by
 go_enter Tryz.func27, Tryz.ntmps27
 go_wp2_with fail
 refine (has_nil 0 w).mono ?_
 rintro e w1 ⟨rfl, rfl⟩
 go_wp2; go_ret
 exact ⟨rfl, rfl⟩
theorem within_any (x : Int) (n : Nat) (hn : 1 ≤ n) (hl : n ≤ 512) (w : World) : Calls Tryz.prog 74 #[.int .i64 x, .int .i64 n] w fun e w' => e = .returned (.int .i64 (nearN x n : Int)) ∧ w = w' := by
 obtain ⟨m, hm⟩ := exq (nearN x n)
 have hm1 : min (max x 0) ((n : Int) - 1) = (m : Int) := by rw [← hm]; unfold nearN; omega
 have HM := hide hm; clear hm
 go_enter Tryz.func74, Tryz.ntmps74
 go_wp2; go_ret
 exact ⟨by rw [HM.out]; rfl, rfl⟩
theorem clone_any (A : Option Addr) (n c : Nat) (cs : List Cel) (w : World) (h : Cels .i32 w A cs) (hn : cs.length = n) (hA : ∃ a, A = some a) (hl : n ≤ 1000000) : Calls Tryz.prog 82 #[.slice A n c] w (MadeC 65 .i32 w cs) := by
 have HC := hide (h.alloc (.cells #[] 65))
 have HN := hide hn
 obtain ⟨a, rfl⟩ := hA
 clear h hn
 have hq : ∀ w, (binOp .eql 45 (.slice (some a) n c) (.slice none 0 0)).run Tryz.prog w = .ok (.bool false) w := fun w => Lib.run_eql_slice_nil w 45 65 (some a) n c 0 0 Tryz.underlying45
 go_enter Tryz.func82, Tryz.ntmps82
 go_wp2_with (at_builtin; refine stopw ?_)
 unfold Hid
 refine wpList_catC elemL rfl _ _ rfl rfl rfl (OwnC.empty w 65 .i32) HC.out HN.out (fun q => by cases q) (by simp; omega) (by omega) ?_
 intro v' w1 hown
 simp only [List.nil_append] at hown
 have HV := hide hown; clear hown; go_wp2; go_ret
 exact ⟨_, rfl, HV.out⟩
theorem gline_any (h : Grd w G L M R C g) (r : Int) (hr : hasG R r) (hC : C ≤ 1000000) : Calls Tryz.prog 39 #[.pointer (some ⟨G, 0, none⟩), .int .i64 r] w (MadeC 65 .i32 w (lAt g.ls r.toNat)) := by
 have HG := hide h
 obtain ⟨cap, ps, room, more, h⟩ := h
 obtain ⟨c0, c1, c2, lG, lL, lM⟩ := h.three
 obtain ⟨q, hq⟩ : ∃ q : Nat, r = (q : Int) := ⟨r.toNat, by unfold hasG at hr; omega⟩
 subst hq
 have hqR : q < R := by unfold hasG at hr; omega
 rw [Int.toNat_natCast]
 have c3 := h.row hqR
 have HC := hide (h.cels hqR)
 have HN := hide (h.lenAt hqR)
 clear h hr
 go_enter Tryz.func39, Tryz.ntmps39
 go_wp2_with fail
 refine (has_any HG.out q).mono ?_
 rintro e w1 ⟨rfl, rfl⟩
 rw [hasG_in hqR]
 go_wp2_with fail
 refine (clone_any _ C C _ w HC.out HN.out ⟨_, rfl⟩ hC).mono ?_
 rintro e w1 ⟨v, rfl, hown⟩
 have HV := hide hown; clear hown c0 c1 c2 c3; go_wp2; go_ret
 exact ⟨_, rfl, HV.out⟩
theorem gline_no (h : Grd w G L M R C g) (r : Int) (hr : ¬ hasG R r) : Calls Tryz.prog 39 #[.pointer (some ⟨G, 0, none⟩), .int .i64 r] w fun e w' => e = .returned (.slice none 0 0) ∧ w = w' := by
 have HG := hide h
 have HD : Hid (decide (hasG R r) = false) := by unfold Hid; simp [hr]
 clear h hr
 go_enter Tryz.func39, Tryz.ntmps39
 go_wp2_with fail
 refine (has_any HG.out r).mono ?_
 rintro e w1 ⟨rfl, rfl⟩
 rw [HD.out]
 go_wp2; go_ret
 exact ⟨rfl, rfl⟩
theorem gline_nil (r : Int) (w : World) : Calls Tryz.prog 39 #[.pointer none, .int .i64 r] w fun e w' => e = .returned (.slice none 0 0) ∧ w = w' := by
 go_enter Tryz.func39, Tryz.ntmps39
 go_wp2_with fail
 refine (has_nil r w).mono ?_
 rintro e w1 ⟨rfl, rfl⟩
 go_wp2; go_ret
 exact ⟨rfl, rfl⟩
end
def sizeB (r c : Int) : Bool := decide (sizeN r c)
theorem rsize_any (r c : Int) (w : World) : Calls Tryz.prog 53 #[.int .i64 r, .int .i64 c] w fun e w' => e = .returned (.bool (sizeB r c)) ∧ w = w' := by
 by_cases h : sizeN r c
 ·have HD : Hid (sizeB r c = true) := by unfold Hid sizeB; simpa using h
  obtain ⟨⟨h1, h2⟩, h3, h4⟩ := h
  go_enter Tryz.func53, Tryz.ntmps53
  go_wp2; go_ret
  exact ⟨ret_bool HD.out.symm, rfl⟩
 ·have HD : Hid (sizeB r c = false) := by unfold Hid sizeB; simpa using h
  have HN := hide h; clear h
  by_cases h1 : 1 ≤ r
  ·by_cases h2 : r ≤ 512
   ·by_cases h3 : 1 ≤ c
    ·have h4 : ¬ c ≤ 512 := fun q => HN.out ⟨⟨h1, h2⟩, h3, q⟩
     go_enter Tryz.func53, Tryz.ntmps53
     go_wp2; go_ret
     exact ⟨ret_bool HD.out.symm, rfl⟩
    ·go_enter Tryz.func53, Tryz.ntmps53
     go_wp2; go_ret
     exact ⟨ret_bool HD.out.symm, rfl⟩
   ·go_enter Tryz.func53, Tryz.ntmps53
    go_wp2; go_ret
    exact ⟨ret_bool HD.out.symm, rfl⟩
  ·go_enter Tryz.func53, Tryz.ntmps53
   go_wp2; go_ret
   exact ⟨ret_bool HD.out.symm, rfl⟩
theorem new1W (w : World) (o : Obj) : Below w.heap.size w (w.alloc o) := (Below.refl _ _).alloc (Nat.le_refl _) _
theorem rhas_any (A : Option Addr) (R cap : Nat) (row col r : Int) (w : World) : Calls Tryz.prog 86 #[.agg #[.slice A R cap, .int .i64 row, .int .i64 col], .int .i64 r] w (Said (decide (hasG R r)) w) := by
 have HB : Hid (Below w.heap.size w (w.alloc (.cells #[.slice A R cap, .int .i64 row, .int .i64 col] 26))) := new1W _ _
 by_cases h0 : 0 ≤ r
 ·by_cases h1 : r < (R : Int)
  ·have HD : Hid (decide (hasG R r) = true) := by unfold Hid hasG; simp [h0, h1]
   go_enter Tryz.func86, Tryz.ntmps86
   go_wp2; go_ret
   exact ⟨ret_bool HD.out.symm, HB.out⟩
  ·have HD : Hid (decide (hasG R r) = false) := by unfold Hid hasG; simp [h1]
   go_enter Tryz.func86, Tryz.ntmps86
   go_wp2; go_ret
   exact ⟨ret_bool HD.out.symm, HB.out⟩
 ·have HD : Hid (decide (hasG R r) = false) := by unfold Hid hasG; simp [h0]
  go_enter Tryz.func86, Tryz.ntmps86
  go_wp2; go_ret
  exact ⟨ret_bool HD.out.symm, HB.out⟩
theorem rgcols_any (A : Option Addr) (R cap C : Nat) (row col : Int) (ls : List (List Cel)) (w : World) (h : Lns w A ls) (hR : ls.length = R) (h1 : 1 ≤ R) (hC : (lAt ls 0).length = C) : Calls Tryz.prog 43 #[.agg #[.slice A R cap, .int .i64 row, .int .i64 col]] w (Num .i64 (C : Int) w) := by
 have HB : Hid (Below w.heap.size w (w.alloc (.cells #[.slice A R cap, .int .i64 row, .int .i64 col] 26))) := new1W _ _
 obtain ⟨b, A', c', rfl, hb, hc, -⟩ := h.at (i := 0) (by omega)
 rw [hC] at hc
 have e1 : ((R : Int) == 0) = false := by simp; omega
 clear h
 go_enter Tryz.func43, Tryz.ntmps43
 go_wp2; go_ret
 exact ⟨rfl, HB.out⟩
theorem bring_any (x : Int) (n : Nat) (hn : 1 ≤ n) (hl : n ≤ 512) (w : World) : Calls Tryz.prog 89 #[.int .i64 x, .int .i64 n] w fun e w' => e = .returned (.int .i64 (nearN x n : Int)) ∧ w = w' := by
 by_cases h1 : (n : Int) ≤ x
 ·have HE : Hid ((nearN x n : Int) = (n : Int) - 1) := by unfold Hid nearN; omega
  go_enter Tryz.func89, Tryz.ntmps89
  go_wp2; go_ret
  exact ⟨by rw [HE.out]; rfl, rfl⟩
 ·by_cases h0 : x < 0
  ·have HE : Hid ((nearN x n : Int) = 0) := by unfold Hid nearN; omega
   go_enter Tryz.func89, Tryz.ntmps89
   go_wp2; go_ret
   exact ⟨by rw [HE.out]; rfl, rfl⟩
  ·have HE : Hid ((nearN x n : Int) = x) := by unfold Hid nearN; omega
   go_enter Tryz.func89, Tryz.ntmps89
   go_wp2; go_ret
   exact ⟨by rw [HE.out]; rfl, rfl⟩
def GaveD (R : Nat) (g : Gd) (w : World) (e : Ending) (w' : World) : Prop := ∃ A cap, e = .returned (.agg #[.slice A R cap, .int .i64 g.row, .int .i64 g.col]) ∧ Lns w' A g.ls ∧ Below w.heap.size w w'
def GaveD2 (R : Nat) (g : Gd) (ok : Bool) (w : World) (e : Ending) (w' : World) : Prop := ∃ A cap, e = .returned (.tuple #[.agg #[.slice A R cap, .int .i64 g.row, .int .i64 g.col], .bool ok]) ∧ Lns w' A g.ls ∧ Below w.heap.size w w'
def OwnD (R : Nat) (g : Gd) (w : World) (e : Ending) (w' : World) : Prop := ∃ b cap, e = .returned (.agg #[.slice (some ⟨b, 0, none⟩) R cap, .int .i64 g.row, .int .i64 g.col]) ∧ Lns w' (some ⟨b, 0, none⟩) g.ls ∧ Below w.heap.size w w' ∧ w.heap.size ≤ b
theorem RwsC.fresh {B : Nat} {w wr : World} {A : Option Addr} {n cap : Nat} {zss : List (List Cel)} (h : RwsC B w wr (.slice A n cap) zss) (h1 : 1 ≤ zss.length) : ∃ b, A = some ⟨b, 0, none⟩ ∧ B ≤ b := by
 obtain ⟨xs, ho, _⟩ := h.row
 rcases ho.2 with ⟨e, h0⟩ | ⟨g, cap', cur, e, hB, _⟩
 ·omega
 ·cases e
  exact ⟨g, rfl, hB⟩
theorem Below.put3 {B : Nat} {W w : World} {q : Nat} (h : Below B W w) (hq : B ≤ q) (x0 x1 x2 : Value) : Below B W (((w.setCell ⟨q, 0, none⟩ x0).setCell ⟨q, 1, none⟩ x1).setCell ⟨q, 2, none⟩ x2) := below_put3 h hq x0 x1 x2
theorem Lns.put3 {w : World} {A : Option Addr} {ls : List (List Cel)} {q : Nat} {t : TypeId} {l : List Value} (h : Lns w A ls) (hq : Whole w q t l) (h1 : t ≠ 95) (h2 : t ≠ 85) (x0 x1 x2 : Value) : Lns (((w.setCell ⟨q, 0, none⟩ x0).setCell ⟨q, 1, none⟩ x1).setCell ⟨q, 2, none⟩ x2) A ls :=
 h.keep (((Stays.put hq (Ne.symm h1)).trans (Stays.put (hq.put 0 x0) (Ne.symm h1))).trans (Stays.put ((hq.put 0 x0).put 1 x1) (Ne.symm h1))) (((Stays.put hq (Ne.symm h2)).trans (Stays.put (hq.put 0 x0) (Ne.symm h2))).trans (Stays.put ((hq.put 0 x0).put 1 x1) (Ne.symm h2)))
theorem rgnew_any (R C : Nat) (hR1 : 1 ≤ R) (hR : R ≤ 512) (w : World) : Calls Tryz.prog 34 #[.int .i64 R, .int .i64 C] w (OwnD R (newG R C) w) := by
 obtain ⟨W0, hW0⟩ := exq ((w.alloc (.cells #[.slice none 0 0, .int .i64 0, .int .i64 0] 26)).alloc (.cells #[.slice none 0 0, .int .i64 0, .int .i64 0] 26))
 have HB0 : Hid (Below w.heap.size w W0) := by unfold Hid; rw [← hW0]; exact two_new _ _ _ _ _
 have HP0 : Hid (Whole W0 w.heap.size 26 [.slice none 0 0, .int .i64 0, .int .i64 0]) := by unfold Hid; rw [← hW0]; exact (Whole.new _ _ _).alloc _
 have HQ0 : Hid (Whole W0 (w.heap.size + 1) 26 [.slice none 0 0, .int .i64 0, .int .i64 0]) := by unfold Hid; rw [← hW0]; exact whole_snd _ _ _ _
 have HW0 := hide hW0; clear hW0
 go_enter Tryz.func34, Tryz.ntmps34
 go_wp2; rw [HW0.out]
 go_loopw [6] (fun i wr => ∃ (k : Nat) (v : Value), k ≤ R ∧ i = .int .i64 k ∧ RwsC w.heap.size w wr v (gtab k (fun _ => newC (C : Int))) ∧ Whole wr (w.heap.size + 1) 26 [v, .int .i64 0, .int .i64 0] ∧ Whole wr w.heap.size 26 [.slice none 0 0, .int .i64 0, .int .i64 0]) (fun i _ => R - (intOf i).toNat)
 case atStart => exact ⟨0, _, Nat.zero_le _, rfl, RwsC.from0 HB0.out.size HB0.out, HQ0.out, HP0.out⟩
 case round =>
  obtain ⟨k, v, hk, rfl, hv, hq, hp⟩ := hrel
  have HV := hide hv; have HQ := hide hq; have HP := hide hp
  obtain ⟨Av, cv, rfl, -⟩ := hv.form
  rw [gtab_len] at HV HQ hq
  clear hv hp
  by_cases hlt : k < R
  ·obtain ⟨b0, b1, b2, lb⟩ := cells3 hq
   clear hq; go_wp2
   refine rgL (fun w' => Below wr.heap.size wr w') 5 [(0, 2), (0, 0), (0, 1), (1, 3), (1, 4), (3, 5), (3, 6), (3, 7)] bd1 ?_
   refine stL (h := ?_)
   refine stL (h := ?_)
   refine stL (hy := fun w hS => by obtain ⟨b0, b1, b2, -⟩ := cells3 (HQ.out.later hS); go_simp <;> with_reducible rfl) (h := ?_)
   refine alL fun K hK => ?_
   go_wp2_with fail
   refine (rnew_any (C : Int) _).mono ?_
   rintro e k1 ⟨x, rfl, hx⟩
   have Bk1 : Below wr.heap.size wr k1 := bd1.trans hx.bel
   have HX := hide hx.rowOk
   have HV1 := hide (HV.out.later Bk1)
   have HQ1 := hide (HQ.out.later Bk1)
   have HP1 := hide (HP.out.later Bk1)
   obtain ⟨Ax, cx, rfl, -⟩ := hx.rowOk
   clear hx; go_wp2
   refine hK.out _ _ (Bk1) ?_
   clear hK K
   refine alL fun K hK => ?_
   go_wp2
   refine hK.out _ _ (Bk1.alloc Bk1.size _) ?_
   clear hK K
   refine laL fun K hK => ?_
   go_wp2_with (at_builtin; refine stopw ?_)
   unfold Hid
   refine wpList_pushL rfl _ _ rfl rfl rfl HV1.out HX.out (by rw [gtab_len]; omega) ?_
   intro v2 w2 hown hoth
   have HV2 : Hid (RwsC w.heap.size w w2 v2 (gtab (k + 1) (fun _ => newC (C : Int)))) := by unfold Hid; rw [gtab_snoc]; exact hown
   have HQ2 := hide (hoth _ _ _ (by decide) HQ1.out)
   have HP2 := hide (hoth _ _ _ (by decide) HP1.out)
   clear hown hoth
   obtain ⟨A2, cap2, rfl, -⟩ := HV2.out.form
   rw [gtab_len] at HV2 ⊢
   obtain ⟨d0, d1, d2, ld⟩ := cells3 HQ2.out
   have hz := HQ2.out.frozen
   go_wp2
   refine hK.out _ _ ?_
   clear hK K
   refine laL fun K hK => ?_
   go_wp2
   refine hK.out _ _ ?_
   clear hK K
   refine laL fun K hK => ?_
   go_wp2
   refine hK.out _ _ ?_
   clear hK K
   refine chainL_nil ?_
   have HQ3 := hide (HQ2.out.put 0 (.slice A2 (k + 1) cap2))
   have HP3 := hide (HP2.out.far (Only.put (g := w.heap.size + 1) 0 (.slice A2 (k + 1) cap2)) (by omega))
   have HV3 := hide (HV2.out.put (i := 0) (u := .slice A2 (k + 1) cap2) HQ2.out (by decide) (by decide) (by omega))
   clear d0 d1 d2 ld hz Bk1 b0 b1 b2 lb; go_wp2
   go_roundw
   case rel => exact ⟨k + 1, _, by omega, by go_num, HV3.out, HQ3.out, HP3.out⟩
   case measure => simp [intOf]; omega
  ·obtain rfl : k = R := by omega
   obtain ⟨b, rfl, hfb⟩ := HV.out.fresh (by rw [gtab_len]; omega)
   obtain ⟨b0, b1, b2, lb⟩ := cells3 hq
   obtain ⟨d0, d1, d2, ld⟩ := cells3 HP.out
   have hz := HP.out.frozen
   have HFB := hide hfb; clear hq hfb; go_wp2
   refine retG Tryz.results34 rfl rfl (put3 HP.out _ _ _) ⟨b, cv, rfl, ?_, below_put3 HV.out.bel (Nat.le_refl _) _ _ _, HFB.out⟩
   obtain ⟨A3, c3, e3, -, -, -, hL⟩ := HV.out.form
   rw [gtab_len] at e3
   cases e3
   exact hL.put3 HP.out (by decide) (by decide) _ _ _
end
end Go.Proofs.YtoddfaoifnkhlaaGreatDoor
