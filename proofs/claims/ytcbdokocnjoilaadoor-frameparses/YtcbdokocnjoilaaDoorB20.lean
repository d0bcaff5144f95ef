/-
  Contracts and plain mathematics of DeRef3, DeRef4, DeKnown, DeWalkB, FmMath.
-/
import Derived.Test.YtcbdokocnjoilaaDoorB19
import Derived.Test.YtcbdokocnjoilaaDoorB15
import Derived.Test.YtcbdokocnjoilaaDoorB13
import Derived.BigQuiet
import Derived.Test.YtcbdokocnjoilaaDoorB17
import Derived.Test.YtcbdokocnjoilaaDoorB16
import Derived.Test.YtcbdokocnjoilaaDoorB7
import Derived.Test.YtcbdokocnjoilaaDoorB14
import Derived.Test.YtcbdokocnjoilaaDoorB18
namespace Go.Proofs.YtcbdokocnjoilaaDoor
set_option maxRecDepth 100000
set_option linter.unusedVariables false
set_option maxHeartbeats 8000000
section
open Go.ChangeShapes Go.WideShapes Go.ChangeAt Go.RowKit
theorem whole_4th (w : World) (o o2 o3 : Obj) (t : TypeId) (l : List Value) : Whole ((((w.alloc o).alloc o2).alloc o3).alloc (.cells l.toArray t)) (w.heap.size + 3) t l := by
  have h := Whole.new (((w.alloc o).alloc o2).alloc o3) t l
  have e : (((w.alloc o).alloc o2).alloc o3).heap.size = w.heap.size + 3 := by simp
  rw [e] at h
  exact h
theorem take_t {xs : List Int} {s : Nat × Int} (hb : Byte xs) (ht : s.1 ≤ xs.length) : (takeD xs s).1.1 ≤ xs.length := by
  unfold takeD
  simp only
  split
  · exact loop_t hb (up_t hb ht) _
  · exact loop_t hb (up_t hb ht) _
theorem span_t {xs : List Int} {s : Nat × Int} (hb : Byte xs) (ht : s.1 ≤ xs.length) : (spanD xs s).1.1 ≤ xs.length := take_t hb (up_t hb (up_t hb ht))
theorem dloop_t {xs : List Int} {s : Nat × Int} (hb : Byte xs) (ht : s.1 ≤ xs.length) : ∀ j, (dloopD xs s j).1.1 ≤ xs.length
  | 0 => ht
  | j + 1 => by
    have ih := dloop_t hb ht j
    show (if (dloopD xs s j).1.2 = 0 then ((spanD xs (dloopD xs s j).1).1, (dloopD xs s j).2 ++ [(spanD xs (dloopD xs s j).1).2]) else dloopD xs s j).1.1 ≤ xs.length
    split
    · exact span_t hb ih
    · exact ih
/-- The document's Up over its states. -/
theorem rup_s (a : Option Addr) (n c : Nat) (xs : List Int) (s : Nat × Int) (most er : Int) (w : World) (hi : Ints .u8 w a xs) (hl : xs.length = n) (hb : Byte xs) (hn : n ≤ 1000000) (hc : n ≤ c) (ht : s.1 ≤ n) (m1 : most ≤ 9223372036854775807) {s' : Nat × Int} {v : Int} (h : upD xs s most er = (s', v)) :
    Calls Tryd.prog 35 #[.agg #[.slice a n c, .int .i64 (s.1 : Int), .int .i64 s.2], .int .i64 most, .int .i64 er] w fun e w' =>
      e = .returned (.tuple #[.agg #[.slice a n c, .int .i64 (s'.1 : Int), .int .i64 s'.2], .int .i64 v]) ∧ Below w.heap.size w w' := by
  refine (rup a n c xs s.1 s.2 most er w hi hl hb hn hc ht m1).mono ?_
  unfold upD at h
  simp only [Prod.mk.injEq] at h
  obtain ⟨h1, h2⟩ := h
  rintro e w' ⟨he, hb⟩
  refine ⟨?_, hb⟩
  rw [he, ← h1, ← h2]
/-- Where a block that isn't the row's own has turned. -/
theorem OwnS.far {C : Nat} {te t : TypeId} {k : IntKind} {B q : Nat} {wr w1 : World} {v : Value} {ss : List Sp} (h : OwnS C te t k B wr wr v ss) (ho : Only q wr w1) (hv : v.ownBlock ≠ some q) (hl : ∀ b, b < C → w1.heap[b]? = wr.heap[b]?) (hs : Stays t wr w1) : OwnS C te t k B w1 w1 v ss := by
  obtain ⟨l, he, hw, hok⟩ := h.row
  refine ⟨⟨l, he, ⟨hw.1, ?_⟩, fun x hx => (hok x hx).keep hl hs⟩, Below.refl _ _, Nat.le_trans h.le ho.size, h.cle⟩
  rcases hw.2 with h0 | ⟨g, cap, cur, hv2, hB, hh, h1⟩
  · exact .inl h0
  · refine .inr ⟨g, cap, cur, hv2, hB, (World.grownBy.block ho g (Array.getElem?_eq_some_iff.1 hh).1 ?_).trans hh, h1⟩
    intro e
    cases e
    exact hv (by rw [hv2]; rfl)
theorem OwnS.blk {C : Nat} {te t : TypeId} {k : IntKind} {B : Nat} {w wr : World} {v : Value} {ss : List Sp} (h : OwnS C te t k B w wr v ss) {g : Nat} (hg : v.ownBlock = some g) : g < wr.heap.size := by
  obtain ⟨l, he, hw, hok⟩ := h.row
  rcases hw.2 with ⟨rfl, _⟩ | ⟨g', cap, cur, rfl, _, hh, _⟩
  · cases hg
  · obtain rfl : g' = g := by simpa [Value.ownBlock] using hg
    exact (Array.getElem?_eq_some_iff.1 hh).1
/-- The document's Take under way: its reader, what it tells, its difference. -/
structure Tq (w W : World) (a : Option Addr) (n c : Nat) (s : Nat × Int) (a1 a2 a3 a4 : Int) (v : Value) (ss : List Sp) : Prop where
  r1 : Whole W w.heap.size 52 [.slice a n c, .int .i64 (s.1 : Int), .int .i64 s.2]
  r2 : Whole W (w.heap.size + 1) 52 [.slice none 0 0, .int .i64 0, .int .i64 0]
  r3 : Whole W (w.heap.size + 2) 34 [.int .i64 0, .int .i64 0, .int .i64 0, .int .i64 0, .slice none 0 0]
  r4 : Whole W (w.heap.size + 3) 34 [.int .i64 a1, .int .i64 a2, .int .i64 a3, .int .i64 a4, v]
  ov : OwnS 0 81 118 .i64 (w.heap.size + 4) W W v ss
  bel : Below w.heap.size w W
section
variable {w W W' : World} {a : Option Addr} {n c : Nat} {s : Nat × Int} {a1 a2 a3 a4 : Int} {v : Value} {ss : List Sp}
theorem nob (b : Nat) {P : Prop} (h : b < 0) : P := absurd h (Nat.not_lt_zero b)
theorem Tq.later (h : Tq w W a n c s a1 a2 a3 a4 v ss) (hb : Below W.heap.size W W') : Tq w W' a n c s a1 a2 a3 a4 v ss := ⟨h.r1.later hb, h.r2.later hb, h.r3.later hb, h.r4.later hb, (h.ov.later hb).now, h.bel.trans (hb.mono h.bel.size)⟩
theorem Tq.putR (h : Tq w W a n c s a1 a2 a3 a4 v ss) (s' : Nat × Int) : Tq w (((W.setCell ⟨w.heap.size, 0, none⟩ (.slice a n c)).setCell ⟨w.heap.size, 1, none⟩ (.int .i64 (s'.1 : Int))).setCell ⟨w.heap.size, 2, none⟩ (.int .i64 s'.2)) a n c s' a1 a2 a3 a4 v ss :=
  ⟨put3 h.r1 _ _ _, h.r2.same (heap_put3 _ _ _ _ _ _ (by omega)), h.r3.same (heap_put3 _ _ _ _ _ _ (by omega)), h.r4.same (heap_put3 _ _ _ _ _ _ (by omega)),
    h.ov.keep (fun b => nob b) (stays_three h.r1 (by decide) _ _ _) (stays_three h.r1 (by decide) _ _ _) (by simp [World.setCell]), below_put3 h.bel (Nat.le_refl _) _ _ _⟩
theorem Tq.putE (h : Tq w W a n c s a1 a2 a3 a4 v ss) (E : Int) : Tq w (W.setCell ⟨w.heap.size, 2, none⟩ (.int .i64 E)) a n c (s.1, E) a1 a2 a3 a4 v ss :=
  ⟨h.r1.put 2 _, h.r2.far (Only.put 2 _) (by omega), h.r3.far (Only.put 2 _) (by omega), h.r4.far (Only.put 2 _) (by omega),
    h.ov.keep (fun b => nob b) (Stays.put h.r1 (by decide)) (Stays.put h.r1 (by decide)) (by simp [World.setCell]), h.bel.setCell (p := ⟨w.heap.size, 2, none⟩) (Nat.le_refl _) _⟩
theorem Tq.put1 (h : Tq w W a n c s a1 a2 a3 a4 v ss) (x : Int) : Tq w (W.setCell ⟨w.heap.size + 3, 0, none⟩ (.int .i64 x)) a n c s x a2 a3 a4 v ss :=
  ⟨h.r1.far (Only.put 0 _) (by omega), h.r2.far (Only.put 0 _) (by omega), h.r3.far (Only.put 0 _) (by omega), h.r4.put 0 _, h.ov.keep (fun b => nob b) (Stays.put h.r4 (by decide)) (Stays.put h.r4 (by decide)) (by simp [World.setCell]), h.bel.setCell (p := ⟨w.heap.size + 3, 0, none⟩) (by show w.heap.size ≤ w.heap.size + 3; omega) _⟩
theorem Tq.put2 (h : Tq w W a n c s a1 a2 a3 a4 v ss) (x : Int) : Tq w (W.setCell ⟨w.heap.size + 3, 1, none⟩ (.int .i64 x)) a n c s a1 x a3 a4 v ss :=
  ⟨h.r1.far (Only.put 1 _) (by omega), h.r2.far (Only.put 1 _) (by omega), h.r3.far (Only.put 1 _) (by omega), h.r4.put 1 _, h.ov.keep (fun b => nob b) (Stays.put h.r4 (by decide)) (Stays.put h.r4 (by decide)) (by simp [World.setCell]), h.bel.setCell (p := ⟨w.heap.size + 3, 1, none⟩) (by show w.heap.size ≤ w.heap.size + 3; omega) _⟩
theorem Tq.put3 (h : Tq w W a n c s a1 a2 a3 a4 v ss) (x : Int) : Tq w (W.setCell ⟨w.heap.size + 3, 2, none⟩ (.int .i64 x)) a n c s a1 a2 x a4 v ss :=
  ⟨h.r1.far (Only.put 2 _) (by omega), h.r2.far (Only.put 2 _) (by omega), h.r3.far (Only.put 2 _) (by omega), h.r4.put 2 _, h.ov.keep (fun b => nob b) (Stays.put h.r4 (by decide)) (Stays.put h.r4 (by decide)) (by simp [World.setCell]), h.bel.setCell (p := ⟨w.heap.size + 3, 2, none⟩) (by show w.heap.size ≤ w.heap.size + 3; omega) _⟩
theorem Tq.put4 (h : Tq w W a n c s a1 a2 a3 a4 v ss) (x : Int) : Tq w (W.setCell ⟨w.heap.size + 3, 3, none⟩ (.int .i64 x)) a n c s a1 a2 a3 x v ss :=
  ⟨h.r1.far (Only.put 3 _) (by omega), h.r2.far (Only.put 3 _) (by omega), h.r3.far (Only.put 3 _) (by omega), h.r4.put 3 _, h.ov.keep (fun b => nob b) (Stays.put h.r4 (by decide)) (Stays.put h.r4 (by decide)) (by simp [World.setCell]), h.bel.setCell (p := ⟨w.heap.size + 3, 3, none⟩) (by show w.heap.size ≤ w.heap.size + 3; omega) _⟩
/-- A block of a span, made behind all: changed. -/
theorem Tq.putq {q i : Nat} {l : List Value} (h : Tq w W a n c s a1 a2 a3 a4 v ss) (hq : w.heap.size + 4 ≤ q) (hw : Whole W q 81 l) (hv : v.ownBlock ≠ some q) (x : Value) : Tq w (W.setCell ⟨q, i, none⟩ x) a n c s a1 a2 a3 a4 v ss :=
  ⟨h.r1.far (Only.put i _) (by omega), h.r2.far (Only.put i _) (by omega), h.r3.far (Only.put i _) (by omega), h.r4.far (Only.put i _) (by omega), h.ov.far (Only.put i x) hv (fun b => nob b) (Stays.put hw (by decide)), h.bel.setCell (p := ⟨q, i, none⟩) (by show w.heap.size ≤ q; omega) _⟩
/-- The row has grown. -/
theorem Tq.grow {v' : Value} {ns : List Sp} (h : Tq w W a n c s a1 a2 a3 a4 v ss) (ho : OwnS 0 81 118 .i64 (w.heap.size + 4) W' W' v' ns) (hbl : Below (w.heap.size + 4) W W') (hs : ∀ t', t' ≠ 81 → Stays t' W W') : Tq w (W'.setCell ⟨w.heap.size + 3, 4, none⟩ v') a n c s a1 a2 a3 a4 v' ns := by
  have k1 := h.r1.same (hs _ (by decide) _ _ h.r1)
  have k2 := h.r2.same (hs _ (by decide) _ _ h.r2)
  have k3 := h.r3.same (hs _ (by decide) _ _ h.r3)
  have k4 := h.r4.same (hs _ (by decide) _ _ h.r4)
  have hb : Below w.heap.size w W' := h.bel.trans (hbl.mono (by omega))
  exact ⟨k1.far (Only.put 4 _) (by omega), k2.far (Only.put 4 _) (by omega), k3.far (Only.put 4 _) (by omega), k4.put 4 _, ho.keep (fun b => nob b) (Stays.put k4 (by decide)) (Stays.put k4 (by decide)) (by simp [World.setCell]), hb.setCell (p := ⟨w.heap.size + 3, 4, none⟩) (by show w.heap.size ≤ w.heap.size + 3; omega) _⟩
theorem Tq.lt (h : Tq w W a n c s a1 a2 a3 a4 v ss) : w.heap.size + 4 ≤ W.heap.size := h.ov.le
end
/-- What the document's Take leaves. -/
def TakeDN (w : World) (a : Option Addr) (n c : Nat) (x : (Nat × Int) × Df) (e : Ending) (w' : World) : Prop :=
  ∃ A cp, e = .returned (.tuple #[.agg #[.slice a n c, .int .i64 (x.1.1 : Int), .int .i64 x.1.2], .agg #[.int .i64 x.2.rows, .int .i64 x.2.cols, .int .i64 x.2.row, .int .i64 x.2.col, .slice A x.2.ss.length cp]]) ∧ DfOk 0 81 118 .i64 w' x.2 A cp ∧ Below w.heap.size w w'
theorem retRD {R : Ending → World → Prop} {act : Act} {w : World} {fn : Func} {s u : Nat} {p q : Nat} {a0 a1 a2 x0 x1 x2 x3 x4 : Value} (hr : fn.results = #[.cell s 52, .cell u 34]) (h4 : act.tmps.getD s undef = .pointer (some ⟨p, 0, none⟩)) (h5 : act.tmps.getD u undef = .pointer (some ⟨q, 0, none⟩)) (hd : act.defers = [])
    (hw : Whole w p 52 [a0, a1, a2]) (hc : Whole w q 34 [x0, x1, x2, x3, x4]) (hR : R (.returned (.tuple #[.agg #[a0, a1, a2], .agg #[x0, x1, x2, x3, x4]])) w) : bodyPost Tryd.prog fn R .ret act w := by
  have c0 : w.cell? ⟨p, 0, none⟩ = some a0 := hw.cell 0
  have c1 : w.cell? ⟨p, 1, none⟩ = some a1 := hw.cell 1
  have c2 : w.cell? ⟨p, 2, none⟩ = some a2 := hw.cell 2
  have e0 : w.cell? ⟨q, 0, none⟩ = some x0 := hc.cell 0
  have e1 : w.cell? ⟨q, 1, none⟩ = some x1 := hc.cell 1
  have e2 : w.cell? ⟨q, 2, none⟩ = some x2 := hc.cell 2
  have e3 : w.cell? ⟨q, 3, none⟩ = some x3 := hc.cell 3
  have e4 : w.cell? ⟨q, 4, none⟩ = some x4 := hc.cell 4
  clear hw hc
  rw [Array.getD_eq_getD_getElem?] at h4 h5
  exact bodyPost_ret (v := .tuple #[.agg #[a0, a1, a2], .agg #[x0, x1, x2, x3, x4]]) (by simp [results, hr, h4, h5, c0, c1, c2, e0, e1, e2, e3, e4, go_sem]) hd hR
theorem heap_put5' (w : World) (q : Nat) (x0 x1 x2 x3 x4 : Value) (i : Nat) (h : i ≠ q) : (((((w.setCell ⟨q, 0, none⟩ x0).setCell ⟨q, 1, none⟩ x1).setCell ⟨q, 2, none⟩ x2).setCell ⟨q, 3, none⟩ x3).setCell ⟨q, 4, none⟩ x4).heap[i]? = w.heap[i]? :=
  (Below.heap_setCell _ _ _ _ h).trans ((Below.heap_setCell _ _ _ _ h).trans (heap_put3 _ _ _ _ _ _ h))
/-- The end: both answers are laid. -/
theorem Tq.ends {w W : World} {a : Option Addr} {n c : Nat} {s : Nat × Int} {a1 a2 a3 a4 : Int} {v : Value} {ss : List Sp} (h : Tq w W a n c s a1 a2 a3 a4 v ss) (x0 x1 x2 y0 y1 y2 y3 y4 : Value) :
    ∃ W2, W2 = (((((((W.setCell ⟨w.heap.size + 1, 0, none⟩ x0).setCell ⟨w.heap.size + 1, 1, none⟩ x1).setCell ⟨w.heap.size + 1, 2, none⟩ x2).setCell ⟨w.heap.size + 2, 0, none⟩ y0).setCell ⟨w.heap.size + 2, 1, none⟩ y1).setCell ⟨w.heap.size + 2, 2, none⟩ y2).setCell ⟨w.heap.size + 2, 3, none⟩ y3).setCell ⟨w.heap.size + 2, 4, none⟩ y4 ∧
      Whole W2 (w.heap.size + 1) 52 [x0, x1, x2] ∧ Whole W2 (w.heap.size + 2) 34 [y0, y1, y2, y3, y4] ∧ OwnS 0 81 118 .i64 (w.heap.size + 4) W2 W2 v ss ∧ Below w.heap.size w W2 := by
  have k1 : Whole _ (w.heap.size + 1) 52 [x0, x1, x2] := _root_.Go.Proofs.YtcbdokocnjoilaaDoor.put3 h.r2 x0 x1 x2
  have k2 := h.r3.same (heap_put3 W (w.heap.size + 1) x0 x1 x2 (w.heap.size + 2) (by omega))
  have o1 := h.ov.keep (w1 := ((W.setCell ⟨w.heap.size + 1, 0, none⟩ x0).setCell ⟨w.heap.size + 1, 1, none⟩ x1).setCell ⟨w.heap.size + 1, 2, none⟩ x2) (fun b => nob b) (stays_three h.r2 (by decide) _ _ _) (stays_three h.r2 (by decide) _ _ _) (by simp [World.setCell])
  have b1 := below_put3 h.bel (show w.heap.size ≤ w.heap.size + 1 by omega) x0 x1 x2
  exact ⟨_, rfl, k1.same (heap_put5' _ _ _ _ _ _ _ _ (by omega)), put5 k2 _ _ _ _ _, o1.keep (fun b => nob b) (stays_put5 k2 (by decide) _ _ _ _ _) (stays_put5 k2 (by decide) _ _ _ _ _) (by simp [World.setCell]), below_put5 b1 (by omega) _ _ _ _ _⟩

theorem rdetake_any (a : Option Addr) (n c : Nat) (xs : List Int) (s : Nat × Int) (w : World) (hi : Ints .u8 w a xs) (hl : xs.length = n) (hb : Byte xs) (hn : n ≤ 1000000) (hc : n ≤ c) (ht : s.1 ≤ n) :
    Calls Tryd.prog 19 #[.agg #[.slice a n c, .int .i64 (s.1 : Int), .int .i64 s.2]] w (TakeDN w a n c (takeDe xs s)) := by
  obtain ⟨W0, hW0⟩ : ∃ W0, (((w.alloc (.cells #[.slice a n c, .int .i64 (s.1 : Int), .int .i64 s.2] 52)).alloc (.cells #[.slice none 0 0, .int .i64 0, .int .i64 0] 52)).alloc (.cells #[.int .i64 0, .int .i64 0, .int .i64 0, .int .i64 0, .slice none 0 0] 34)).alloc (.cells #[.int .i64 0, .int .i64 0, .int .i64 0, .int .i64 0, .slice none 0 0] 34) = W0 := ⟨_, rfl⟩
  have HT0 : Hid (Tq w W0 a n c s 0 0 0 0 (.slice none 0 0) []) := by
    unfold Hid
    rw [← hW0]
    exact ⟨(((Whole.new w 52 [.slice a n c, .int .i64 (s.1 : Int), .int .i64 s.2]).alloc _).alloc _).alloc _, ((whole_snd w _ 52 [.slice none 0 0, .int .i64 0, .int .i64 0]).alloc _).alloc _, (whole_thd w _ _ 34 [.int .i64 0, .int .i64 0, .int .i64 0, .int .i64 0, .slice none 0 0]).alloc _, whole_4th w _ _ _ 34 [.int .i64 0, .int .i64 0, .int .i64 0, .int .i64 0, .slice none 0 0], OwnS.start (by simp) (Nat.zero_le _), (three_newW w _ _ _).alloc (by simp; omega) _⟩
  obtain ⟨s4, a1, a2, a3, a4, h4⟩ := sides_four xs s
  have e4 : sidesD xs s 4 = ((upD xs (upD xs (upD xs (upD xs s 512 5).1 512 5).1 512 5).1 512 5).1, [(upD xs s 512 5).2, (upD xs (upD xs s 512 5).1 512 5).2, (upD xs (upD xs (upD xs s 512 5).1 512 5).1 512 5).2, (upD xs (upD xs (upD xs (upD xs s 512 5).1 512 5).1 512 5).1 512 5).2]) := rfl
  rw [h4] at e4
  simp only [Prod.mk.injEq, List.cons.injEq, and_true] at e4
  obtain ⟨q0, q1, q2, q3, q4⟩ := e4
  have hs0 : s.1 ≤ xs.length := by rw [hl]; exact ht
  have hs1 := up_t (most := 512) (er := 5) hb hs0
  have hs2 := up_t (most := 512) (er := 5) hb hs1
  have hs3 := up_t (most := 512) (er := 5) hb hs2
  have hs4 := up_t (most := 512) (er := 5) hb hs3
  have hs5 := up_t (most := 512) (er := 6) hb hs4
  obtain ⟨⟨s1, b1⟩, hu0⟩ : ∃ U, upD xs s 512 5 = U := ⟨_, rfl⟩
  rw [hu0] at q0 q1 q2 q3 q4 hs1 hs2 hs3 hs4 hs5
  simp only at q0 q1 q2 q3 q4 hs1 hs2 hs3 hs4 hs5
  obtain ⟨⟨s2, b2⟩, hu1⟩ : ∃ U, upD xs s1 512 5 = U := ⟨_, rfl⟩
  rw [hu1] at q0 q2 q3 q4 hs2 hs3 hs4 hs5
  simp only at q0 q2 q3 q4 hs2 hs3 hs4 hs5
  obtain ⟨⟨s3, b3⟩, hu2⟩ : ∃ U, upD xs s2 512 5 = U := ⟨_, rfl⟩
  rw [hu2] at q0 q3 q4 hs3 hs4 hs5
  simp only at q0 q3 q4 hs3 hs4 hs5
  obtain ⟨⟨s4', b4⟩, hu3⟩ : ∃ U, upD xs s3 512 5 = U := ⟨_, rfl⟩
  rw [hu3] at q0 q4 hs4 hs5
  simp only at q0 q4 hs4 hs5
  subst q0 q1 q2 q3 q4
  obtain ⟨⟨s5, V⟩, hu4⟩ : ∃ U, upD xs s4 512 6 = U := ⟨_, rfl⟩
  rw [hu4] at hs5
  simp only at hs5
  have hbd := upD_bd (xs := xs) (s := s4) (most := 512) (er := 6) hb (by omega)
  rw [hu4] at hbd
  simp only at hbd
  have htd := takeDe_is h4 hu4
  obtain ⟨N, rfl⟩ : ∃ N : Nat, V = (N : Int) := ⟨V.toNat, by omega⟩
  rw [Int.toNat_natCast] at htd
  have HTD := hide htd
  have HU0 := hide hu0
  have HU1 := hide hu1
  have HU2 := hide hu2
  have HU3 := hide hu3
  have HU4 := hide hu4
  rw [hl] at hs0 hs1 hs2 hs3 hs4
  have HS0 := hide hs0
  have HS1 := hide hs1
  have HS2 := hide hs2
  have HS3 := hide hs3
  have HS4 := hide hs4
  have HDT : Hid (∀ j, (dloopD xs s5 j).1.1 ≤ n) := by unfold Hid; intro j; rw [← hl]; exact dloop_t hb hs5 j
  have HI := hide hi
  have HL := hide hl
  have HB := hide hb
  have HW0 := hide hW0
  have hN : N ≤ 512 := by omega
  clear hi hl hb ht hs0 hs1 hs2 hs3 hs4 hs5 hu0 hu1 hu2 hu3 hu4 h4 htd hbd hW0
  go_enter Tryd.func19, Tryd.ntmps19
  have r0 := HT0.out.r1.cell 0
  have r1 := HT0.out.r1.cell 1
  have r2 := HT0.out.r1.cell 2
  have rz := HT0.out.r1.frozen
  have rl := HT0.out.r1.lt
  simp only [List.getElem?_cons_zero, List.getElem?_cons_succ] at r0 r1 r2
  go_wp2_with fail
  rw [HW0.out]
  refine (rup_s a n c xs s 512 5 W0 (HI.out.below HT0.out.bel) HL.out HB.out hn hc HS0.out (by omega) HU0.out).mono ?_
  rintro e u0 ⟨rfl, hb9⟩
  have HQ0 := hide (HT0.out.later hb9)
  clear hb9
  clear r0 r1 r2 rz rl
  have r0 := HQ0.out.r1.cell 0
  have r1 := HQ0.out.r1.cell 1
  have r2 := HQ0.out.r1.cell 2
  have rz := HQ0.out.r1.frozen
  have rl := HQ0.out.r1.lt
  simp only [List.getElem?_cons_zero, List.getElem?_cons_succ] at r0 r1 r2
  obtain ⟨e0, e1, e2, e3, e4, el⟩ := cells5 HQ0.out.r4
  have ez := HQ0.out.r4.frozen
  obtain ⟨W1, hw⟩ : ∃ W, (((u0.setCell ⟨w.heap.size, 0, none⟩ (.slice a n c)).setCell ⟨w.heap.size, 1, none⟩ (.int .i64 (s1.1 : Int))).setCell ⟨w.heap.size, 2, none⟩ (.int .i64 s1.2)).setCell ⟨w.heap.size + 3, 0, none⟩ (.int .i64 a1) = W := ⟨_, rfl⟩
  have HT1 := hide ((HQ0.out.putR s1).put1 a1)
  rw [hw] at HT1
  have HWW := hide hw
  clear hw
  go_upto_region 3 with fail
  rw [HWW.out]
  clear r0 r1 r2 rz rl e0 e1 e2 e3 e4 el ez
  clear HWW
  have r0 := HT1.out.r1.cell 0
  have r1 := HT1.out.r1.cell 1
  have r2 := HT1.out.r1.cell 2
  have rz := HT1.out.r1.frozen
  have rl := HT1.out.r1.lt
  simp only [List.getElem?_cons_zero, List.getElem?_cons_succ] at r0 r1 r2
  go_wp2_with fail
  refine (rup_s a n c xs s1 512 5 W1 (HI.out.below HT1.out.bel) HL.out HB.out hn hc HS1.out (by omega) HU1.out).mono ?_
  rintro e u1 ⟨rfl, hb9⟩
  have HQ1 := hide (HT1.out.later hb9)
  clear hb9
  clear r0 r1 r2 rz rl
  have r0 := HQ1.out.r1.cell 0
  have r1 := HQ1.out.r1.cell 1
  have r2 := HQ1.out.r1.cell 2
  have rz := HQ1.out.r1.frozen
  have rl := HQ1.out.r1.lt
  simp only [List.getElem?_cons_zero, List.getElem?_cons_succ] at r0 r1 r2
  obtain ⟨e0, e1, e2, e3, e4, el⟩ := cells5 HQ1.out.r4
  have ez := HQ1.out.r4.frozen
  obtain ⟨W2, hw⟩ : ∃ W, (((u1.setCell ⟨w.heap.size, 0, none⟩ (.slice a n c)).setCell ⟨w.heap.size, 1, none⟩ (.int .i64 (s2.1 : Int))).setCell ⟨w.heap.size, 2, none⟩ (.int .i64 s2.2)).setCell ⟨w.heap.size + 3, 1, none⟩ (.int .i64 a2) = W := ⟨_, rfl⟩
  have HT2 := hide ((HQ1.out.putR s2).put2 a2)
  rw [hw] at HT2
  have HWW := hide hw
  clear hw
  go_upto_region 4 with fail
  rw [HWW.out]
  clear r0 r1 r2 rz rl e0 e1 e2 e3 e4 el ez
  clear HWW
  have r0 := HT2.out.r1.cell 0
  have r1 := HT2.out.r1.cell 1
  have r2 := HT2.out.r1.cell 2
  have rz := HT2.out.r1.frozen
  have rl := HT2.out.r1.lt
  simp only [List.getElem?_cons_zero, List.getElem?_cons_succ] at r0 r1 r2
  go_wp2_with fail
  refine (rup_s a n c xs s2 512 5 W2 (HI.out.below HT2.out.bel) HL.out HB.out hn hc HS2.out (by omega) HU2.out).mono ?_
  rintro e u2 ⟨rfl, hb9⟩
  have HQ2 := hide (HT2.out.later hb9)
  clear hb9
  clear r0 r1 r2 rz rl
  have r0 := HQ2.out.r1.cell 0
  have r1 := HQ2.out.r1.cell 1
  have r2 := HQ2.out.r1.cell 2
  have rz := HQ2.out.r1.frozen
  have rl := HQ2.out.r1.lt
  simp only [List.getElem?_cons_zero, List.getElem?_cons_succ] at r0 r1 r2
  obtain ⟨e0, e1, e2, e3, e4, el⟩ := cells5 HQ2.out.r4
  have ez := HQ2.out.r4.frozen
  obtain ⟨W3, hw⟩ : ∃ W, (((u2.setCell ⟨w.heap.size, 0, none⟩ (.slice a n c)).setCell ⟨w.heap.size, 1, none⟩ (.int .i64 (s3.1 : Int))).setCell ⟨w.heap.size, 2, none⟩ (.int .i64 s3.2)).setCell ⟨w.heap.size + 3, 2, none⟩ (.int .i64 a3) = W := ⟨_, rfl⟩
  have HT3 := hide ((HQ2.out.putR s3).put3 a3)
  rw [hw] at HT3
  have HWW := hide hw
  clear hw
  go_upto_region 5 with fail
  rw [HWW.out]
  clear r0 r1 r2 rz rl e0 e1 e2 e3 e4 el ez
  clear HWW
  have r0 := HT3.out.r1.cell 0
  have r1 := HT3.out.r1.cell 1
  have r2 := HT3.out.r1.cell 2
  have rz := HT3.out.r1.frozen
  have rl := HT3.out.r1.lt
  simp only [List.getElem?_cons_zero, List.getElem?_cons_succ] at r0 r1 r2
  go_wp2_with fail
  refine (rup_s a n c xs s3 512 5 W3 (HI.out.below HT3.out.bel) HL.out HB.out hn hc HS3.out (by omega) HU3.out).mono ?_
  rintro e u3 ⟨rfl, hb9⟩
  have HQ3 := hide (HT3.out.later hb9)
  clear hb9
  clear r0 r1 r2 rz rl
  have r0 := HQ3.out.r1.cell 0
  have r1 := HQ3.out.r1.cell 1
  have r2 := HQ3.out.r1.cell 2
  have rz := HQ3.out.r1.frozen
  have rl := HQ3.out.r1.lt
  simp only [List.getElem?_cons_zero, List.getElem?_cons_succ] at r0 r1 r2
  obtain ⟨e0, e1, e2, e3, e4, el⟩ := cells5 HQ3.out.r4
  have ez := HQ3.out.r4.frozen
  obtain ⟨W4, hw⟩ : ∃ W, (((u3.setCell ⟨w.heap.size, 0, none⟩ (.slice a n c)).setCell ⟨w.heap.size, 1, none⟩ (.int .i64 (s4.1 : Int))).setCell ⟨w.heap.size, 2, none⟩ (.int .i64 s4.2)).setCell ⟨w.heap.size + 3, 3, none⟩ (.int .i64 a4) = W := ⟨_, rfl⟩
  have HT4 := hide ((HQ3.out.putR s4).put4 a4)
  rw [hw] at HT4
  have HWW := hide hw
  clear hw
  go_upto_region 6 with fail
  rw [HWW.out]
  clear r0 r1 r2 rz rl e0 e1 e2 e3 e4 el ez
  clear HWW
  have r0 := HT4.out.r1.cell 0
  have r1 := HT4.out.r1.cell 1
  have r2 := HT4.out.r1.cell 2
  have rz := HT4.out.r1.frozen
  have rl := HT4.out.r1.lt
  simp only [List.getElem?_cons_zero, List.getElem?_cons_succ] at r0 r1 r2
  go_wp2_with fail
  refine (rup_s a n c xs s4 512 6 W4 (HI.out.below HT4.out.bel) HL.out HB.out hn hc HS4.out (by omega) HU4.out).mono ?_
  rintro e u4 ⟨rfl, hb9⟩
  have HQ4 := hide (HT4.out.later hb9)
  clear hb9
  clear r0 r1 r2 rz rl
  have r0 := HQ4.out.r1.cell 0
  have r1 := HQ4.out.r1.cell 1
  have r2 := HQ4.out.r1.cell 2
  have rz := HQ4.out.r1.frozen
  have rl := HQ4.out.r1.lt
  simp only [List.getElem?_cons_zero, List.getElem?_cons_succ] at r0 r1 r2
  obtain ⟨W5, hw⟩ : ∃ W, ((u4.setCell ⟨w.heap.size, 0, none⟩ (.slice a n c)).setCell ⟨w.heap.size, 1, none⟩ (.int .i64 (s5.1 : Int))).setCell ⟨w.heap.size, 2, none⟩ (.int .i64 s5.2) = W := ⟨_, rfl⟩
  have HT5 := hide (HQ4.out.putR s5)
  rw [hw] at HT5
  have HWW := hide hw
  clear hw
  go_upto_region 7 with fail
  rw [HWW.out]
  clear r0 r1 r2 rz rl
  clear HWW
  go_wp2
  go_loopw [6, 7] (fun i _ wr => ∃ (k : Nat) (v : Value), k ≤ N ∧ i = .int .i64 k ∧ Hid (Tq w wr a n c (dloopD xs s5 k).1 a1 a2 a3 a4 v (dloopD xs s5 k).2) ∧ Hid ((dloopD xs s5 k).2.length ≤ k)) (fun i _ _ => N - (intOf i).toNat)
  case atStart => exact ⟨0, _, Nat.zero_le _, rfl, HT5, Nat.le_refl _⟩
  case round =>
    obtain ⟨k, v, hk, rfl, HTk, HLk⟩ := hrel
    have hstay := @dloop_stays xs s5 k
    have hnext := @dloop_next xs s5 k
    have hsk := HDT.out k
    obtain ⟨⟨sk, sk2⟩, hX⟩ : ∃ X, dloopD xs s5 k = X := ⟨_, rfl⟩
    have HX := hide hX
    rw [hX] at HTk HLk hstay hnext hsk
    simp only at HTk HLk hstay hnext hsk
    obtain ⟨T, E⟩ := sk
    simp only at hstay hnext hsk
    obtain ⟨A3, c3, rfl⟩ : ∃ A c, v = .slice A sk2.length c := by obtain ⟨A, c, e, -⟩ := HTk.out.ov.form; exact ⟨A, c, e⟩
    obtain ⟨kn, hkn⟩ : ∃ kn, sk2.length = kn := ⟨_, rfl⟩
    rw [hkn] at HTk
    have HKN := hide hkn
    clear hX hkn
    by_cases hlt : k < N
    · by_cases hE : E = 0
      · subst hE
        have hnx := hnext rfl
        have HSk := hide hsk
        have hlk := HLk.out
        rw [HKN.out] at hlk
        obtain ⟨sk, hsk'⟩ : ∃ sk : Nat × Int, ((T, 0) : Nat × Int) = sk := ⟨_, rfl⟩
        rw [hsk'] at hnx
        have hb1 := up_t (most := 512) (er := 5) (s := sk) HB.out (by rw [← hsk', HL.out]; exact hsk)
        have hsp : spanD xs sk = ((takeD xs (upD xs (upD xs sk 512 5).1 512 5).1).1, ⟨(upD xs sk 512 5).2, (upD xs (upD xs sk 512 5).1 512 5).2, (takeD xs (upD xs (upD xs sk 512 5).1 512 5).1).2⟩) := rfl
        obtain ⟨⟨sa, r⟩, hua⟩ : ∃ U, upD xs sk 512 5 = U := ⟨_, rfl⟩
        rw [hua] at hsp hb1
        simp only at hsp hb1
        have hb2 := up_t (most := 512) (er := 5) (s := sa) HB.out hb1
        obtain ⟨⟨sb, l⟩, hub⟩ : ∃ U, upD xs sa 512 5 = U := ⟨_, rfl⟩
        rw [hub] at hsp hb2
        simp only at hsp hb2
        obtain ⟨⟨sc, cs⟩, htk⟩ : ∃ U, takeD xs sb = U := ⟨_, rfl⟩
        rw [htk] at hsp
        simp only at hsp
        rw [hsp] at hnx
        simp only at hnx
        obtain ⟨u, hcu⟩ : ∃ u, cs.length = u := ⟨_, rfl⟩
        rw [HL.out] at hb1 hb2
        have HNX := hide hnx
        have HUa : Hid (upD xs (T, 0) 512 5 = (sa, r)) := by unfold Hid; rw [hsk']; exact hua
        have HUb := hide hub
        have HTK := hide htk
        have HCU := hide hcu
        have HSa := hide hb1
        have HSb := hide hb2
        obtain ⟨q, hq⟩ : ∃ q, wr.heap.size = q := ⟨_, rfl⟩
        obtain ⟨Wa, hWa⟩ : ∃ Wa, wr.alloc (.cells #[.int .i64 0, .int .i64 0, .slice none 0 0] 81) = Wa := ⟨_, rfl⟩
        have hba : Below wr.heap.size wr Wa := by rw [← hWa]; exact new1W _ _
        have HTa := hide (HTk.out.later hba)
        have HXa : Hid (Whole Wa q 81 [.int .i64 0, .int .i64 0, .slice none 0 0]) := by unfold Hid; rw [← hWa, ← hq]; exact Whole.new wr 81 [.int .i64 0, .int .i64 0, .slice none 0 0]
        have HQG : Hid (w.heap.size + 4 ≤ q) := by unfold Hid; rw [← hq]; exact HTk.out.lt
        have HVQ : Hid ((Value.slice A3 kn c3).ownBlock ≠ some q) := by unfold Hid; intro z; have := HTk.out.ov.blk z; omega
        have HWa := hide hWa
        clear hstay hnext hnx hsp hua hub htk hcu hb1 hb2 hWa hba hsk hsk'
        have r0 := HTk.out.r1.cell 0
        have r1 := HTk.out.r1.cell 1
        have r2 := HTk.out.r1.cell 2
        have rz := HTk.out.r1.frozen
        have rl := HTk.out.r1.lt
        simp only [List.getElem?_cons_zero, List.getElem?_cons_succ] at r0 r1 r2
        go_upto_region 11 with fail
        rw [HWa.out]
        clear r0 r1 r2 rz rl
        clear hq
        have r0 := HTa.out.r1.cell 0
        have r1 := HTa.out.r1.cell 1
        have r2 := HTa.out.r1.cell 2
        have rz := HTa.out.r1.frozen
        have rl := HTa.out.r1.lt
        simp only [List.getElem?_cons_zero, List.getElem?_cons_succ] at r0 r1 r2
        go_wp2_with fail
        refine (rup_s a n c xs (T, 0) 512 5 Wa (HI.out.below HTa.out.bel) HL.out HB.out hn hc HSk.out (by omega) HUa.out).mono ?_
        rintro e ua ⟨rfl, hb9⟩
        have HQa := hide (HTa.out.later hb9)
        have HXa2 := hide (HXa.out.later hb9)
        clear hb9
        clear r0 r1 r2 rz rl
        have r0 := HQa.out.r1.cell 0
        have r1 := HQa.out.r1.cell 1
        have r2 := HQa.out.r1.cell 2
        have rz := HQa.out.r1.frozen
        have rl := HQa.out.r1.lt
        simp only [List.getElem?_cons_zero, List.getElem?_cons_succ] at r0 r1 r2
        obtain ⟨q0, q1, q2, ql⟩ := cells3 HXa2.out
        have qz := HXa2.out.frozen
        have qn : ¬ q = w.heap.size := by have := HQG.out; omega
        have qn2 : ¬ w.heap.size = q := by have := HQG.out; omega
        obtain ⟨Wb, hw⟩ : ∃ W, (((ua.setCell ⟨w.heap.size, 0, none⟩ (.slice a n c)).setCell ⟨w.heap.size, 1, none⟩ (.int .i64 (sa.1 : Int))).setCell ⟨w.heap.size, 2, none⟩ (.int .i64 sa.2)).setCell ⟨q, 0, none⟩ (.int .i64 r) = W := ⟨_, rfl⟩
        have hxx := HXa2.out.same (heap_put3 ua w.heap.size (.slice a n c) (.int .i64 (sa.1 : Int)) (.int .i64 sa.2) q (by have := HQG.out; omega))
        have HTb := hide ((HQa.out.putR sa).putq (i := 0) HQG.out hxx HVQ.out (.int .i64 r))
        have HXb := hide (hxx.put 0 (.int .i64 r))
        rw [hw] at HTb HXb
        simp only [List.set_cons_zero] at HXb
        have HWW := hide hw
        clear hw hxx
        go_upto_region 12 with fail
        rw [HWW.out]
        clear r0 r1 r2 rz rl
        clear HWW q0 q1 q2 ql qz qn qn2
        have r0 := HTb.out.r1.cell 0
        have r1 := HTb.out.r1.cell 1
        have r2 := HTb.out.r1.cell 2
        have rz := HTb.out.r1.frozen
        have rl := HTb.out.r1.lt
        simp only [List.getElem?_cons_zero, List.getElem?_cons_succ] at r0 r1 r2
        go_wp2_with fail
        refine (rup_s a n c xs sa 512 5 Wb (HI.out.below HTb.out.bel) HL.out HB.out hn hc HSa.out (by omega) HUb.out).mono ?_
        rintro e ub ⟨rfl, hb9⟩
        have HQb := hide (HTb.out.later hb9)
        have HXb2 := hide (HXb.out.later hb9)
        clear hb9
        clear r0 r1 r2 rz rl
        have r0 := HQb.out.r1.cell 0
        have r1 := HQb.out.r1.cell 1
        have r2 := HQb.out.r1.cell 2
        have rz := HQb.out.r1.frozen
        have rl := HQb.out.r1.lt
        simp only [List.getElem?_cons_zero, List.getElem?_cons_succ] at r0 r1 r2
        obtain ⟨q0, q1, q2, ql⟩ := cells3 HXb2.out
        have qz := HXb2.out.frozen
        have qn : ¬ q = w.heap.size := by have := HQG.out; omega
        have qn2 : ¬ w.heap.size = q := by have := HQG.out; omega
        obtain ⟨Wc, hw⟩ : ∃ W, (((ub.setCell ⟨w.heap.size, 0, none⟩ (.slice a n c)).setCell ⟨w.heap.size, 1, none⟩ (.int .i64 (sb.1 : Int))).setCell ⟨w.heap.size, 2, none⟩ (.int .i64 sb.2)).setCell ⟨q, 1, none⟩ (.int .i64 l) = W := ⟨_, rfl⟩
        have hxx := HXb2.out.same (heap_put3 ub w.heap.size (.slice a n c) (.int .i64 (sb.1 : Int)) (.int .i64 sb.2) q (by have := HQG.out; omega))
        have HTc := hide ((HQb.out.putR sb).putq (i := 1) HQG.out hxx HVQ.out (.int .i64 l))
        have HXc := hide (hxx.put 1 (.int .i64 l))
        rw [hw] at HTc HXc
        simp only [List.set_cons_zero, List.set_cons_succ] at HXc
        have HWW := hide hw
        clear hw hxx
        go_upto_region 13 with fail
        rw [HWW.out]
        clear r0 r1 r2 rz rl
        clear HWW q0 q1 q2 ql qz qn qn2
        have r0 := HTc.out.r1.cell 0
        have r1 := HTc.out.r1.cell 1
        have r2 := HTc.out.r1.cell 2
        have rz := HTc.out.r1.frozen
        have rl := HTc.out.r1.lt
        simp only [List.getElem?_cons_zero, List.getElem?_cons_succ] at r0 r1 r2
        go_wp2_with fail
        have KEY := rrtake_any a n c xs sb Wc (HI.out.below HTc.out.bel) HL.out HB.out hn hc HSb.out
        rw [HTK.out] at KEY
        refine KEY.mono ?_
        clear KEY
        rintro e uc ⟨Ac, cc, rfl, hct, hcl, hb9⟩
        simp only at hct hcl
        simp only
        rw [HCU.out] at hcl ⊢
        have HCT := hide hct
        have HCL := hide hcl
        have HQc := hide (HTc.out.later hb9)
        have HXc2 := hide (HXc.out.later hb9)
        clear hct hcl hb9
        clear r0 r1 r2 rz rl
        have r0 := HQc.out.r1.cell 0
        have r1 := HQc.out.r1.cell 1
        have r2 := HQc.out.r1.cell 2
        have rz := HQc.out.r1.frozen
        have rl := HQc.out.r1.lt
        simp only [List.getElem?_cons_zero, List.getElem?_cons_succ] at r0 r1 r2
        obtain ⟨q0, q1, q2, ql⟩ := cells3 HXc2.out
        have qz := HXc2.out.frozen
        have qn : ¬ q = w.heap.size := by have := HQG.out; omega
        have qn2 : ¬ w.heap.size = q := by have := HQG.out; omega
        obtain ⟨Wd, hw⟩ : ∃ W, (((uc.setCell ⟨w.heap.size, 0, none⟩ (.slice a n c)).setCell ⟨w.heap.size, 1, none⟩ (.int .i64 (sc.1 : Int))).setCell ⟨w.heap.size, 2, none⟩ (.int .i64 sc.2)).setCell ⟨q, 2, none⟩ (.slice Ac u cc) = W := ⟨_, rfl⟩
        have hxx := HXc2.out.same (heap_put3 uc w.heap.size (.slice a n c) (.int .i64 (sc.1 : Int)) (.int .i64 sc.2) q (by have := HQG.out; omega))
        have HTd := hide ((HQc.out.putR sc).putq (i := 2) HQG.out hxx HVQ.out (.slice Ac u cc))
        have HXd := hide (hxx.put 2 (.slice Ac u cc))
        have HCD : Hid (CelsT 0 118 .i64 Wd Ac cs) := by
          unfold Hid
          rw [← hw]
          exact (HCT.out.keep (fun b => nob b) (stays_three HQc.out.r1 (by decide) _ _ _)).keep (fun b => nob b) (Stays.put hxx (by decide))
        rw [hw] at HTd HXd
        simp only [List.set_cons_zero, List.set_cons_succ] at HXd
        have HWW := hide hw
        clear hw hxx
        go_upto_region 14 with fail
        rw [HWW.out]
        clear r0 r1 r2 rz rl
        clear HWW q0 q1 q2 ql qz qn qn2
        obtain ⟨q0, q1, q2, ql⟩ := cells3 HXd.out
        obtain ⟨e0, e1, e2, e3, e4, el⟩ := cells5 HTd.out.r4
        go_wp2_with (at_builtin; refine stopw ?_)
        unfold Hid
        refine wpList_pushS elemRSp r l Ac cc cs u HCU.out HCD.out HCL.out.1 HCL.out.2 rfl _ _ rfl rfl rfl HTd.out.ov (by rw [HKN.out]; omega) (by omega) (by decide) ?_
        intro v2 wq hown2 hst2 hbl2
        obtain ⟨A5, n5, c5, rfl⟩ := hown2.slice
        have hbA : Below Wd.heap.size Wd (Wd.alloc (.cells #[.int .i64 r, .int .i64 l, .slice Ac u cc] 81)) := new1W _ _
        have hTA := HTd.out.later hbA
        have HTe := hide (hTA.grow (W' := wq) hown2.now hbl2 hst2)
        have HR4 := hide (hTA.r4.same (hst2 _ (by decide) _ _ hTA.r4))
        clear hown2 hst2 hbl2 hbA hTA q0 q1 q2 ql e0 e1 e2 e3 e4 el
        obtain ⟨e0, e1, e2, e3, e4, el⟩ := cells5 HR4.out
        have ez := HR4.out.frozen
        go_wp2
        go_roundw
        case rel => exact ⟨k + 1, _, by omega, by go_num, by rw [HNX.out]; exact HTe, by rw [HNX.out]; unfold Hid; simp only [List.length_append, HKN.out, List.length_cons, List.length_nil]; omega⟩
        case measure => simp [intOf]; omega
      · have e1 : (E == 0) = false := by simpa using hE
        have e2 : (E != 0) = true := by simpa using hE
        have HF : Hid (takeDe xs s = ((T, E), zeroD)) := by
          unfold Hid
          have := hstay hE (N - k)
          rw [HTD.out, show N = k + (N - k) by omega, this]
          exact endD_err hE
        clear hstay hnext hE hsk
        have r0 := HTk.out.r1.cell 0
        have r1 := HTk.out.r1.cell 1
        have r2 := HTk.out.r1.cell 2
        have rz := HTk.out.r1.frozen
        have rl := HTk.out.r1.lt
        simp only [List.getElem?_cons_zero, List.getElem?_cons_succ] at r0 r1 r2
        obtain ⟨g0, g1, g2, gl⟩ := cells3 HTk.out.r2
        have gz := HTk.out.r2.frozen
        obtain ⟨k0, k1, k2, k3, k4, kl⟩ := cells5 HTk.out.r3
        have kz := HTk.out.r3.frozen
        obtain ⟨W2, hW2, h1, h2, -, h4⟩ := HTk.out.ends (.slice a n c) (.int .i64 (T : Int)) (.int .i64 E) (.int .i64 0) (.int .i64 0) (.int .i64 0) (.int .i64 0) (.slice none 0 0)
        have HE1 := hide h1
        have HE2 := hide h2
        have HE4 := hide h4
        have HEW := hide hW2
        clear h1 h2 h4 hW2
        go_wp2
        rw [← HEW.out]
        refine retRD Tryd.results19 rfl rfl rfl HE1.out HE2.out ?_
        rw [HF.out]
        exact ⟨none, 0, rfl, ⟨.nil, Nat.le_refl _, fun _ => rfl, Nat.zero_le _⟩, HE4.out⟩
    · obtain rfl : k = N := by omega
      by_cases hE : E = 0
      · subst hE
        have HTE : Hid (takeDe xs s = ((T, checkD ⟨a1, a2, a3, a4, sk2⟩), if checkD ⟨a1, a2, a3, a4, sk2⟩ = 0 then ⟨a1, a2, a3, a4, sk2⟩ else zeroD)) := by
          unfold Hid
          rw [HTD.out, HX.out]
          exact endD_fin
        obtain ⟨Aq, cq, hq1, hq2, hq3, hq4, -⟩ := HTk.out.ov.form
        rw [HKN.out] at hq1 hq3
        cases hq1
        have HSP := hide hq2
        have HC := hide hq3
        have HCN := hide hq4
        have hlk := HLk.out
        rw [HKN.out] at hlk
        clear hq2 hq3 hq4 hstay hnext hsk
        have r0 := HTk.out.r1.cell 0
        have r1 := HTk.out.r1.cell 1
        have r2 := HTk.out.r1.cell 2
        have rz := HTk.out.r1.frozen
        have rl := HTk.out.r1.lt
        simp only [List.getElem?_cons_zero, List.getElem?_cons_succ] at r0 r1 r2
        obtain ⟨d0, d1, d2, d3, d4, ld⟩ := cells5 HTk.out.r4
        go_wp2_with fail
        refine (rdcheck_any 0 81 118 ⟨a1, a2, a3, a4, sk2⟩ A3 kn c3 wr HSP.out (Nat.zero_le _) HKN.out (by omega)).mono ?_
        obtain ⟨CD, hCD⟩ : ∃ CD, checkD ⟨a1, a2, a3, a4, sk2⟩ = CD := ⟨_, rfl⟩
        rw [hCD] at HTE ⊢
        clear hCD
        rintro e w3 ⟨rfl, hb3⟩
        have HT3 := hide (HTk.out.later hb3)
        have HSP3 := hide (HSP.out.below hb3 (Nat.zero_le _))
        clear hb3 r0 r1 r2 rz rl d0 d1 d2 d3 d4 ld
        have rl := HT3.out.r1.lt
        have rz := HT3.out.r1.frozen
        have r2 := HT3.out.r1.cell 2
        simp only [List.getElem?_cons_zero, List.getElem?_cons_succ] at r2
        obtain ⟨w4, hw4⟩ : ∃ w4, w3.setCell ⟨w.heap.size, 2, none⟩ (.int .i64 CD) = w4 := ⟨_, rfl⟩
        have HT4 := hide (HT3.out.putE CD)
        have HSP4 : Hid (Sps 0 81 118 .i64 (w3.setCell ⟨w.heap.size, 2, none⟩ (.int .i64 CD)) A3 sk2) := HSP3.out.keep (fun b => nob b) (Stays.put HT3.out.r1 (by decide)) (Stays.put HT3.out.r1 (by decide))
        rw [hw4] at HT4 HSP4
        simp only at HT4
        have HW4 := hide hw4
        clear hw4
        go_upto_region 17 with fail
        rw [HW4.out]
        clear r2 rz rl HW4
        have r0 := HT4.out.r1.cell 0
        have r1 := HT4.out.r1.cell 1
        have r2 := HT4.out.r1.cell 2
        have rz := HT4.out.r1.frozen
        have rl := HT4.out.r1.lt
        simp only [List.getElem?_cons_zero, List.getElem?_cons_succ] at r0 r1 r2
        by_cases hC : CD = 0
        · subst hC
          have HF : Hid (takeDe xs s = ((T, 0), ⟨a1, a2, a3, a4, sk2⟩)) := by
            unfold Hid
            rw [HTE.out, if_pos rfl]
          obtain ⟨d0, d1, d2, d3, d4, ld⟩ := cells5 HT4.out.r4
          have dz := HT4.out.r4.frozen
          obtain ⟨g0, g1, g2, gl⟩ := cells3 HT4.out.r2
          have gz := HT4.out.r2.frozen
          obtain ⟨k0, k1, k2, k3, k4, kl⟩ := cells5 HT4.out.r3
          have kz := HT4.out.r3.frozen
          obtain ⟨W2, hW2, h1, h2, h3, h4⟩ := HT4.out.ends (.slice a n c) (.int .i64 (T : Int)) (.int .i64 0) (.int .i64 a1) (.int .i64 a2) (.int .i64 a3) (.int .i64 a4) (.slice A3 kn c3)
          have HE1 := hide h1
          have HE2 := hide h2
          have HE3 := hide h3
          have HE4 := hide h4
          have HEW := hide hW2
          clear h1 h2 h3 h4 hW2
          go_wp2
          refine rgL (fun w' => Whole w' w.heap.size 52 [.slice a n c, .int .i64 (T : Int), .int .i64 0] ∧ Whole w' (w.heap.size + 3) 34 [.int .i64 a1, .int .i64 a2, .int .i64 a3, .int .i64 a4, .slice A3 kn c3]) 3 [(0, 0), (0, 1), (1, 2), (3, 3)] (⟨HT4.out.r1, HT4.out.r4⟩) ?_
          refine stL (hy := fun w hS => by obtain ⟨f0, f1, f2, -⟩ := cells3 hS.1; go_simp <;> with_reducible rfl) (h := ?_)
          refine stL (hy := fun w hS => by obtain ⟨f0, f1, f2, f3, f4, -⟩ := cells5 hS.2; go_simp <;> with_reducible rfl) (h := ?_)
          refine alL fun K hK => ?_
          go_wp2
          refine hK.out _ _ (⟨HT4.out.r1.same (heap_put3 _ _ _ _ _ _ (by omega)), HT4.out.r4.same (heap_put3 _ _ _ _ _ _ (by omega))⟩) ?_
          clear hK K
          refine laL fun K hK => ?_
          go_wp2
          refine hK.out _ _ ?_
          clear hK K
          refine chainL_nil ?_
          go_wp2
          rw [← HEW.out]
          refine retRD Tryd.results19 rfl rfl rfl HE1.out HE2.out ?_
          rw [HF.out]
          obtain ⟨A9, c9, e9, hs9, hc9, hn9, -⟩ := HE3.out.form
          rw [HKN.out] at e9 hc9
          cases e9
          exact ⟨A3, c3, by simp only [HKN.out], ⟨hs9, by show sk2.length ≤ c3; rw [HKN.out]; exact hc9, hn9, Nat.zero_le _⟩, HE4.out.drewN 1⟩
        · have c1 : (CD != 0) = true := by simpa using hC
          have HF : Hid (takeDe xs s = ((T, CD), zeroD)) := by
            unfold Hid
            rw [HTE.out, if_neg hC]
          clear hC
          obtain ⟨g0, g1, g2, gl⟩ := cells3 HT4.out.r2
          have gz := HT4.out.r2.frozen
          obtain ⟨k0, k1, k2, k3, k4, kl⟩ := cells5 HT4.out.r3
          have kz := HT4.out.r3.frozen
          obtain ⟨W2, hW2, h1, h2, -, h4⟩ := HT4.out.ends (.slice a n c) (.int .i64 (T : Int)) (.int .i64 CD) (.int .i64 0) (.int .i64 0) (.int .i64 0) (.int .i64 0) (.slice none 0 0)
          have HE1 := hide h1
          have HE2 := hide h2
          have HE4 := hide h4
          have HEW := hide hW2
          clear h1 h2 h4 hW2
          go_wp2
          rw [← HEW.out]
          refine retRD Tryd.results19 rfl rfl rfl HE1.out HE2.out ?_
          rw [HF.out]
          exact ⟨none, 0, rfl, ⟨.nil, Nat.le_refl _, fun _ => rfl, Nat.zero_le _⟩, HE4.out⟩
      · have e1 : (E == 0) = false := by simpa using hE
        have e2 : (E != 0) = true := by simpa using hE
        have HF : Hid (takeDe xs s = ((T, E), zeroD)) := by
          unfold Hid
          rw [HTD.out, HX.out]
          exact endD_err hE
        clear hstay hnext hE hsk
        have r0 := HTk.out.r1.cell 0
        have r1 := HTk.out.r1.cell 1
        have r2 := HTk.out.r1.cell 2
        have rz := HTk.out.r1.frozen
        have rl := HTk.out.r1.lt
        simp only [List.getElem?_cons_zero, List.getElem?_cons_succ] at r0 r1 r2
        obtain ⟨g0, g1, g2, gl⟩ := cells3 HTk.out.r2
        have gz := HTk.out.r2.frozen
        obtain ⟨k0, k1, k2, k3, k4, kl⟩ := cells5 HTk.out.r3
        have kz := HTk.out.r3.frozen
        obtain ⟨W2, hW2, h1, h2, -, h4⟩ := HTk.out.ends (.slice a n c) (.int .i64 (T : Int)) (.int .i64 E) (.int .i64 0) (.int .i64 0) (.int .i64 0) (.int .i64 0) (.slice none 0 0)
        have HE1 := hide h1
        have HE2 := hide h2
        have HE4 := hide h4
        have HEW := hide hW2
        clear h1 h2 h4 hW2
        go_wp2
        rw [← HEW.out]
        refine retRD Tryd.results19 rfl rfl rfl HE1.out HE2.out ?_
        rw [HF.out]
        exact ⟨none, 0, rfl, ⟨.nil, Nat.le_refl _, fun _ => rfl, Nat.zero_le _⟩, HE4.out⟩
theorem retD1E {R : Ending → World → Prop} {a : Act} {w : World} {fn : Func} {s z : Nat} {q : Nat} {x0 x1 x2 x3 x4 v : Value} (hr : fn.results = #[.cell s 34, .tmp z]) (h4 : a.tmps.getD s undef = .pointer (some ⟨q, 0, none⟩)) (h6 : a.tmps.getD z undef = v) (hd : a.defers = [])
    (hw : Whole w q 34 [x0, x1, x2, x3, x4]) (hR : R (.returned (.tuple #[.agg #[x0, x1, x2, x3, x4], v])) w) : bodyPost Tryd.prog fn R .ret a w := by
  have c0 : w.cell? ⟨q, 0, none⟩ = some x0 := hw.cell 0
  have c1 : w.cell? ⟨q, 1, none⟩ = some x1 := hw.cell 1
  have c2 : w.cell? ⟨q, 2, none⟩ = some x2 := hw.cell 2
  have c3 : w.cell? ⟨q, 3, none⟩ = some x3 := hw.cell 3
  have c4 : w.cell? ⟨q, 4, none⟩ = some x4 := hw.cell 4
  clear hw
  rw [Array.getD_eq_getD_getElem?] at h4 h6
  exact bodyPost_ret (v := .tuple #[.agg #[x0, x1, x2, x3, x4], v]) (by simp [results, hr, h4, h6, c0, c1, c2, c3, c4, go_sem]) hd hR
/-- What the document's Parse leaves. -/
def ParseDN (w : World) (x : Df × Int) (e : Ending) (w' : World) : Prop :=
  ∃ A c, e = .returned (.tuple #[.agg #[.int .i64 x.1.rows, .int .i64 x.1.cols, .int .i64 x.1.row, .int .i64 x.1.col, .slice A x.1.ss.length c], .int .i64 x.2]) ∧ DfOk 0 81 118 .i64 w' x.1 A c ∧ Below w.heap.size w w'
/-! ### the law's Same -/
def exD : Df := ⟨1, 2, 0, 1, [⟨0, 0, [⟨97, 0, 0, 1, ⟨0, 0, 0⟩⟩]⟩]⟩
theorem exD_one : exD.ss.length = 1 := rfl
theorem exD_check : checkDe exD = 0 := by decide +kernel
theorem exD_bytes : bytesDe exD = [1, 2, 0, 1, 1, 0, 0, 1, 1, 1, 0, 97, 0] := by decide +kernel
theorem exD_len : (bytesSs exD.ss).length ≤ 300000 := by decide +kernel
theorem exD_LB : ∀ s ∈ exD.ss, LB s.cs := by
  intro s hs
  simp only [exD, List.mem_cons, List.not_mem_nil, or_false] at hs
  subst hs
  exact all_LB (by decide +kernel)
theorem exD_bytes_any (W : World) (b : Nat) (h : Sps W.heap.size 88 127 .i32 W (some ⟨b, 0, none⟩) exD.ss) (hS : Spans W) :
    Calls Tryd.prog 23 #[.agg #[.int .i64 1, .int .i64 2, .int .i64 0, .int .i64 1, .slice (some ⟨b, 0, none⟩) 1 1]] W fun e w' => ∃ A c, e = .returned (.tuple #[.slice A 13 c, .int .i64 0]) ∧ Ints .u8 w' A [1, 2, 0, 1, 1, 0, 0, 1, 1, 1, 0, 97, 0] ∧ Below W.heap.size W w' := by
  have key := debytes_any W.heap.size 88 127 exD (some ⟨b, 0, none⟩) 1 1 W h (Nat.le_refl _) exD_one (by omega) exD_LB exD_len hS
  rw [show exD.rows = 1 from rfl, show exD.cols = 2 from rfl, show exD.row = 0 from rfl, show exD.col = 1 from rfl] at key
  unfold GaveDB at key
  rw [exD_check, exD_bytes] at key
  refine key.mono ?_
  rintro e w' ⟨v, he, ho⟩
  rw [if_pos rfl] at ho
  obtain ⟨A, c, hv, hi, -⟩ := ho.form2
  exact ⟨A, c, by rw [he, hv]; rfl, hi, ho.bel⟩
theorem encN_byte (n : Nat) (h : n < 18446744073709551616) : Byte (enc n) := by
  have := encAll_byte [(n : Int)] (by intro z hz; simp only [List.mem_cons, List.not_mem_nil, or_false] at hz; omega)
  rwa [encAll_one, Int.toNat_natCast] at this
theorem bytes_app {a b : List Int} (ha : Byte a) (hb : Byte b) : Byte (a ++ b) := by
  intro x hx
  rcases List.mem_append.1 hx with h | h
  · exact ha x h
  · exact hb x h
theorem bytesS_byte {s : Sp} (h : SpFine s) : Byte (bytesS s) := by
  obtain ⟨r, hr, hr2⟩ := h.row
  obtain ⟨c, hc, hc2⟩ := h.col
  unfold bytesS
  rw [hr, hc, Int.toNat_natCast, Int.toNat_natCast]
  exact bytes_app (encN_byte r (by omega)) (bytes_app (encN_byte c (by omega)) (bytesR_byte h.len h.right))
theorem bytesSs_byte {ss : List Sp} (h : ∀ s ∈ ss, SpFine s) : Byte (bytesSs ss) := by
  intro x hx
  unfold bytesSs at hx
  obtain ⟨s, hs, hx⟩ := List.mem_flatMap.1 hx
  exact bytesS_byte (h s hs) x hx
theorem bytesDe_byte {d : Df} (hd : checkDe d = 0) : Byte (bytesDe d) := by
  obtain ⟨-, ⟨a, ha, ha2⟩, ⟨b, hb, hb2⟩, ⟨c, hc, hc2⟩, ⟨e, he, he2⟩, hm, hs⟩ := fine_of hd
  unfold bytesDe
  rw [ha, hb, hc, he]
  simp only [Int.toNat_natCast]
  exact bytes_app (encN_byte a (by omega)) (bytes_app (encN_byte b (by omega)) (bytes_app (encN_byte c (by omega)) (bytes_app (encN_byte e (by omega)) (bytes_app (encN_byte _ (by omega)) (bytesSs_byte hs)))))
theorem bytesS_len (s : Sp) : (bytesS s).length ≤ 30 + 70 * s.cs.length := by
  unfold bytesS
  simp only [List.length_append]
  have h1 := (enc_len s.row.toNat).2
  have h2 := (enc_len s.col.toNat).2
  have h3 := bytesR_len s.cs
  omega
theorem bytesSs_len {ss : List Sp} (h : ∀ s ∈ ss, s.cs.length ≤ 30) : (bytesSs ss).length ≤ 2130 * ss.length := by
  induction ss with
  | nil => simp [bytesSs]
  | cons s ss ih =>
    have e : bytesSs (s :: ss) = bytesS s ++ bytesSs ss := rfl
    rw [e, List.length_append, List.length_cons]
    have h1 := bytesS_len s
    have h2 := h s (List.mem_cons_self)
    have h3 := ih (fun x hx => h x (List.mem_cons_of_mem _ hx))
    omega
theorem cut_small (d : Df) : (bytesSs (cutD d).ss).length ≤ 30000 := by
  have h1 := bytesSs_len (cut_cells d)
  have h2 : (cutD d).ss.length ≤ 10 := cutTo_len d.ss 10
  omega
theorem dfok_put {te t t' : TypeId} {k : IntKind} {w : World} {d : Df} {A : Option Addr} {c q : Nat} {l : List Value} (h : DfOk 0 te t k w d A c) (hw : Whole w q t' l) (h1 : te ≠ t') (h2 : t ≠ t') (x0 x1 x2 x3 x4 : Value) :
    DfOk 0 te t k (((((w.setCell ⟨q, 0, none⟩ x0).setCell ⟨q, 1, none⟩ x1).setCell ⟨q, 2, none⟩ x2).setCell ⟨q, 3, none⟩ x3).setCell ⟨q, 4, none⟩ x4) d A c :=
  ⟨h.sps.keep (fun b => nob b) (stays_put5 hw h2 _ _ _ _ _) (stays_put5 hw h1 _ _ _ _ _), h.cap, h.none, Nat.zero_le _⟩
theorem dec_self (x : Df) : decide (x = x) = true := decide_eq_true rfl
theorem Sps.up {C C' : Nat} {te t : TypeId} {k : IntKind} {w : World} {A : Option Addr} {ss : List Sp} (h : Sps C te t k w A ss) (hC : C ≤ C') : Sps C' te t k w A ss := by
  obtain ⟨l, he, hok, h⟩ := h
  refine ⟨l, he, fun x hx => ⟨(hok x hx).1.more hC, (hok x hx).2⟩, ?_⟩
  rcases h with h | ⟨b, off, ha, hb, hc⟩
  · exact .inl h
  · exact .inr ⟨b, off, ha, by rcases hb with q | q; exact .inl (by omega); exact .inr q, hc⟩
end
structure Fm where
  num : Int
  base : Int
  echo : Int
  stamp : Int
  d : Df
def U64 (x : Int) : Prop := 0 ≤ x ∧ x < 18446744073709551616
structure FmOk (f : Fm) : Prop where
  num : U64 f.num
  base : U64 f.base
  echo : U64 f.echo
  stamp : U64 f.stamp
def zeroFm : Fm := ⟨0, 0, 0, 0, zeroD⟩
theorem zeroFm_ok : FmOk zeroFm := ⟨⟨by decide, by decide⟩, ⟨by decide, by decide⟩, ⟨by decide, by decide⟩, ⟨by decide, by decide⟩⟩
/-! ### told -/
def bytesFm (f : Fm) : List Int := 70 :: (enc f.num.toNat ++ (enc f.base.toNat ++ (enc f.echo.toNat ++ (enc f.stamp.toNat ++ bytesDe f.d))))
def checkFm (f : Fm) : Int := if f.num ≤ f.base then 17 else if checkDe f.d = 0 then (if 65536 < (bytesFm f).length then 2 else 0) else checkDe f.d
/-! ### read -/
/-- The four numbers and the difference, from the place behind the first byte on. -/
def bodyFm (xs : List Int) (s : Nat × Int) : (Nat × Int) × Fm :=
  let a := numD xs s
  let b := numD xs a.1
  let c := numD xs b.1
  let e := numD xs c.1
  let t := takeDe xs e.1
  (t.1, ⟨a.2, b.2, c.2, e.2, t.2⟩)
/-- The error behind them. -/
def endFm (xs : List Int) (x : (Nat × Int) × Fm) : Int := if dVal xs x.1.1 x.1.2 = 0 ∧ x.2.num ≤ x.2.base then 17 else dVal xs x.1.1 x.1.2
def parseFm (xs : List Int) : Fm × Int :=
  if 65536 < xs.length then (zeroFm, 2)
  else if xs.head? = some 70 then (if endFm xs (bodyFm xs (1, 0)) = 0 then ((bodyFm xs (1, 0)).2, 0) else (zeroFm, endFm xs (bodyFm xs (1, 0))))
  else (zeroFm, 12)

theorem checkFm_zero {f : Fm} (h : checkFm f = 0) : f.base < f.num ∧ checkDe f.d = 0 ∧ (bytesFm f).length ≤ 65536 := by
  unfold checkFm at h
  split at h
  · cases h
  · rename_i h1
    split at h
    · rename_i h2
      split at h
      · cases h
      · rename_i h3
        exact ⟨by omega, h2, by omega⟩
    · rename_i h2; exact absurd h h2
theorem checkFm_of {f : Fm} (h1 : f.base < f.num) (h2 : checkDe f.d = 0) (h3 : (bytesFm f).length ≤ 65536) : checkFm f = 0 := by
  unfold checkFm
  rw [if_neg (by omega), if_pos h2, if_neg (by omega)]
theorem u64_nat {x : Int} (h : U64 x) : ∃ n : Nat, x = n ∧ n < 18446744073709551616 := ⟨x.toNat, by have := h.1; omega, by have := h.1; have := h.2; omega⟩
theorem body_enc {xs ys : List Int} {t : Nat} {f : Fm} (hf : FmOk f) (hd : checkDe f.d = 0) (h : xs.drop t = enc f.num.toNat ++ (enc f.base.toNat ++ (enc f.echo.toNat ++ (enc f.stamp.toNat ++ (bytesDe f.d ++ ys))))) :
    bodyFm xs (t, 0) = ((t + (enc f.num.toNat).length + (enc f.base.toNat).length + (enc f.echo.toNat).length + (enc f.stamp.toNat).length + (bytesDe f.d).length, 0), f) ∧ xs.drop (t + (enc f.num.toNat).length + (enc f.base.toNat).length + (enc f.echo.toNat).length + (enc f.stamp.toNat).length + (bytesDe f.d).length) = ys := by
  obtain ⟨a, ha, ha2⟩ := u64_nat hf.num
  obtain ⟨b, hb, hb2⟩ := u64_nat hf.base
  obtain ⟨c, hc, hc2⟩ := u64_nat hf.echo
  obtain ⟨e, he, he2⟩ := u64_nat hf.stamp
  obtain ⟨num, base, echo, stamp, d⟩ := f
  simp only at ha hb hc he hd h ⊢
  subst ha hb hc he
  simp only [Int.toNat_natCast] at h ⊢
  obtain ⟨h1, h2⟩ := num_enc h (by omega)
  obtain ⟨h3, h4⟩ := num_enc h2 (by omega)
  obtain ⟨h5, h6⟩ := num_enc h4 (by omega)
  obtain ⟨h7, h8⟩ := num_enc h6 (by omega)
  obtain ⟨h9, h10⟩ := takeDe_enc hd h8
  refine ⟨?_, h10⟩
  unfold bodyFm
  simp only [h1, h3, h5, h7, h9]
theorem body_told {f : Fm} (hf : FmOk f) (hd : checkDe f.d = 0) (ys : List Int) : bodyFm (bytesFm f ++ ys) (1, 0) = (((bytesFm f).length, 0), f) := by
  obtain ⟨h1, -⟩ := body_enc (xs := bytesFm f ++ ys) (ys := ys) (t := 1) hf hd (by unfold bytesFm; simp)
  rw [h1]
  refine Prod.ext (Prod.ext ?_ rfl) rfl
  unfold bytesFm
  simp only [List.length_cons, List.length_append]
  omega
theorem head_told (f : Fm) (ys : List Int) : (bytesFm f ++ ys).head? = some 70 := rfl
/-- What was told is parsed as it was. -/
theorem parseFm_enc {f : Fm} (hf : FmOk f) (h : checkFm f = 0) : parseFm (bytesFm f) = (f, 0) := by
  obtain ⟨h1, h2, h3⟩ := checkFm_zero h
  have hb := body_told hf h2 []
  rw [List.append_nil] at hb
  have he : endFm (bytesFm f) (bodyFm (bytesFm f) (1, 0)) = 0 := by
    rw [hb]
    unfold endFm
    have hz : dVal (bytesFm f) (bytesFm f).length 0 = 0 := by unfold dVal; rw [if_neg (by omega)]
    simp only [hz, true_and]
    rw [if_neg (by omega)]
  unfold parseFm
  rw [if_neg (by omega), if_pos (by have := head_told f []; rwa [List.append_nil] at this), if_pos he, hb]
/-- With one byte more behind they tell none. -/
theorem parseFm_more {f : Fm} (hf : FmOk f) (h : checkFm f = 0) (m : Int) (hl : (bytesFm f).length + 1 ≤ 65536) : parseFm (bytesFm f ++ [m]) = (zeroFm, 3) := by
  obtain ⟨h1, h2, h3⟩ := checkFm_zero h
  have hb := body_told hf h2 [m]
  have hlen : (bytesFm f ++ [m]).length = (bytesFm f).length + 1 := by simp
  have he : endFm (bytesFm f ++ [m]) (bodyFm (bytesFm f ++ [m]) (1, 0)) = 3 := by
    rw [hb]
    unfold endFm
    have hz : dVal (bytesFm f ++ [m]) (bytesFm f).length 0 = 3 := by unfold dVal; rw [if_pos ⟨rfl, by omega⟩]
    simp only [hz]
    rw [if_neg (by intro z; exact absurd z.1 (by decide))]
  unfold parseFm
  rw [if_neg (by omega), if_pos (head_told f [m]), if_neg (by rw [he]; decide), he]
theorem numD_u64 {xs : List Int} {s : Nat × Int} (hb : Byte xs) (h : (numD xs s).1.2 = 0) : U64 (numD xs s).2 := by
  obtain ⟨-, N, h1, h2, -⟩ := num_back hb h
  rw [h1]
  exact ⟨by omega, by omega⟩
/-- What was parsed is told by just these bytes. -/
theorem parseFm_back {xs : List Int} (hb : Byte xs) (h : (parseFm xs).2 = 0) : bytesFm (parseFm xs).1 = xs ∧ checkFm (parseFm xs).1 = 0 ∧ FmOk (parseFm xs).1 := by
  unfold parseFm at h ⊢
  by_cases q1 : 65536 < xs.length
  · rw [if_pos q1] at h; cases h
  · rw [if_neg q1] at h ⊢
    by_cases q2 : xs.head? = some 70
    · rw [if_pos q2] at h ⊢
      by_cases q3 : endFm xs (bodyFm xs (1, 0)) = 0
      · rw [if_pos q3]
        simp only
        have hd0 : dVal xs (bodyFm xs (1, 0)).1.1 (bodyFm xs (1, 0)).1.2 = 0 ∧ ¬ ((bodyFm xs (1, 0)).2.num ≤ (bodyFm xs (1, 0)).2.base) := by
          unfold endFm at q3
          split at q3
          · cases q3
          · rename_i z; exact ⟨q3, fun y => z ⟨q3, y⟩⟩
        have hE : (bodyFm xs (1, 0)).1.2 = 0 ∧ ¬ (bodyFm xs (1, 0)).1.1 < xs.length := by
          have := hd0.1
          unfold dVal at this
          split at this
          · cases this
          · rename_i z; exact ⟨this, fun y => z ⟨this, y⟩⟩
        obtain ⟨-, hnb⟩ := hd0
        obtain ⟨hE, hend⟩ := hE
        unfold bodyFm at hE hend hnb ⊢
        simp only at hE hend hnb ⊢
        obtain ⟨h1, h2, h3⟩ := takeDe_back hb hE
        obtain ⟨h4, S, h5, h6, h7⟩ := num_back hb h1
        obtain ⟨h8, C, h9, h10, h11⟩ := num_back hb h4
        obtain ⟨h12, B, h13, h14, h15⟩ := num_back hb h8
        obtain ⟨h16, A, h17, h18, h19⟩ := num_back hb h12
        have hx : xs = 70 :: xs.drop 1 := by
          cases xs with
          | nil => cases q2
          | cons a l => simp only [List.head?_cons, Option.some.injEq] at q2; rw [q2]; rfl
        have hbs : bytesFm ⟨(numD xs (1, 0)).2, (numD xs (numD xs (1, 0)).1).2, (numD xs (numD xs (numD xs (1, 0)).1).1).2, (numD xs (numD xs (numD xs (numD xs (1, 0)).1).1).1).2, (takeDe xs (numD xs (numD xs (numD xs (numD xs (1, 0)).1).1).1).1).2⟩ = xs := by
          unfold bytesFm
          simp only [h17, h13, h9, h5, Int.toNat_natCast]
          rw [show xs.drop (takeDe xs (numD xs (numD xs (numD xs (numD xs (1, 0)).1).1).1).1).1.1 = [] from List.drop_eq_nil_of_le (by omega), List.append_nil] at h3
          rw [← h3, ← h7, ← h11, ← h15]
          simp only at h19
          rw [← h19]
          exact hx.symm
        refine ⟨hbs, checkFm_of (by simp only; omega) h2 (by rw [hbs]; omega), ⟨?_, ?_, ?_, ?_⟩⟩
        · exact numD_u64 hb h12
        · exact numD_u64 hb h8
        · exact numD_u64 hb h4
        · exact numD_u64 hb h1
      · rw [if_neg q3] at h; exact absurd h q3
    · rw [if_neg q2] at h; cases h
theorem take_four_De {xs : List Int} {s : Nat × Int} (h : s.2 = 4) : (takeDe xs s).1.2 = 4 := by
  have hr : (rawD xs s).1.2 = 4 := dloop_four (up_four (up_four (up_four (up_four (up_four h))))) _
  unfold takeDe
  simp only [hr]
  rfl
theorem takeDe_cuts {xs : List Int} {s : Nat × Int} {k : Nat} (hk : s.1 ≤ k) (h0 : (takeDe xs s).1.2 = 0) : (takeDe xs s).1.1 ≤ k ∨ (takeDe (xs.take k) s).1.2 = 4 := by
  have hq : (rawD xs s).1.2 = 0 := by
    unfold takeDe at h0
    simp only at h0
    by_cases q : (rawD xs s).1.2 = 0
    · exact q
    · rw [if_neg q] at h0; exact absurd h0 q
  rcases raw_cuts hk hq with ⟨h1, -⟩ | h1
  · left; exact h1
  · right
    simp only at h1
    unfold takeDe
    simp only [h1]
    rfl
theorem body_cut {xs : List Int} {s : Nat × Int} {k : Nat} (hk : s.1 ≤ k) (h0 : (bodyFm xs s).1.2 = 0) (hz : ∀ t : Nat × Int, (takeDe xs t).1.2 = 0 → t.2 = 0) (hn : ∀ t : Nat × Int, (numD xs t).1.2 = 0 → t.2 = 0) :
    (bodyFm xs s).1.1 ≤ k ∨ (bodyFm (xs.take k) s).1.2 = 4 := by
  unfold bodyFm at h0 ⊢
  simp only at h0 ⊢
  have h4 := hz _ h0
  have h3 := hn _ h4
  have h2 := hn _ h3
  have h1 := hn _ h2
  rcases num_cuts hk h1 with ⟨a1, a2⟩ | a2
  · simp only at a1 a2
    rw [a2]
    rcases num_cuts a1 h2 with ⟨b1, b2⟩ | b2
    · simp only at b1 b2
      rw [b2]
      rcases num_cuts b1 h3 with ⟨c1, c2⟩ | c2
      · simp only at c1 c2
        rw [c2]
        rcases num_cuts c1 h4 with ⟨d1, d2⟩ | d2
        · simp only at d1 d2
          rw [d2]
          exact takeDe_cuts d1 h0
        · simp only at d2; exact .inr (take_four_De d2)
      · simp only at c2; exact .inr (take_four_De (num_stay c2))
    · simp only at b2; exact .inr (take_four_De (num_stay (num_stay b2)))
  · simp only at a2; exact .inr (take_four_De (num_stay (num_stay (num_stay a2))))
/-- A frame's bytes, cut short anywhere, tell none. -/
theorem parseFm_cut {f : Fm} (hf : FmOk f) (h : checkFm f = 0) (hby : Byte (bytesFm f)) {k : Nat} (hk : k < (bytesFm f).length) : parseFm ((bytesFm f).take k) = (zeroFm, if k = 0 then 12 else 4) := by
  obtain ⟨h1, h2, h3⟩ := checkFm_zero h
  have hlen : ((bytesFm f).take k).length = k := by rw [List.length_take]; omega
  unfold parseFm
  rw [if_neg (by omega)]
  cases k with
  | zero => rw [if_neg (by simp), if_pos rfl]
  | succ k =>
    have hh : ((bytesFm f).take (k + 1)).head? = some 70 := rfl
    have hb := body_told hf h2 []
    rw [List.append_nil] at hb
    have hb4 : (bodyFm ((bytesFm f).take (k + 1)) (1, 0)).1.2 = 4 := by
      rcases body_cut (xs := bytesFm f) (s := (1, 0)) (k := k + 1) (by simp only; omega) (by rw [hb]) (fun t ht => (takeDe_back hby ht).1) (fun t ht => (num_back hby ht).1) with q | q
      · rw [hb] at q; simp only at q; omega
      · exact q
    have he : endFm ((bytesFm f).take (k + 1)) (bodyFm ((bytesFm f).take (k + 1)) (1, 0)) = 4 := by
      unfold endFm
      have hz : ∀ t : Nat, dVal ((bytesFm f).take (k + 1)) t 4 = 4 := fun t => by unfold dVal; rw [if_neg (fun z => absurd z.1 (by decide))]
      rw [hb4, hz, if_neg (fun z => absurd z.1 (by decide))]
    rw [if_pos hh, if_neg (by rw [he]; decide), he, if_neg (by omega)]
end Go.Proofs.YtcbdokocnjoilaaDoor
