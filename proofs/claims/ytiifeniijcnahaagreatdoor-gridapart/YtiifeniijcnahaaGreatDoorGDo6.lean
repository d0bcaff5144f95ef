/-
  The law's Do, whatever is asked; acts that came in.
-/
import Derived.Test.YtiifeniijcnahaaGreatDoorGDo1
import Derived.Test.YtiifeniijcnahaaGreatDoorGDo2
import Derived.Test.YtiifeniijcnahaaGreatDoorGDo3
import Derived.Test.YtiifeniijcnahaaGreatDoorGDo4
import Derived.Test.YtiifeniijcnahaaGreatDoorGDo5
namespace Go.Proofs.YtiifeniijcnahaaGreatDoor
set_option maxRecDepth 100000
open Go.ChangeShapes Go.WideShapes Go.ChangeAt Go.RowKit
set_option linter.unusedVariables false

/-- An act. -/
structure Ac where
  k : Int
  r : Int
  c : Int
  t : Int
  xr : Int
  xm : Int
  xn : Int
  xd : Nat
  xf : Nat
  xg : Nat
  xb : Nat
  m : Int
  pf : Nat
  pg : Nat
  pb : Nat
  Al : Option Addr
  nl : Nat
  cl : Nat
  cs : List Cel
def actL (a : Ac) : List Value := [.int .i64 a.k, .int .i64 a.r, .int .i64 a.c, .int .i64 a.t, .int .i32 a.xr, .int .i32 a.xm, .int .i32 a.xn, .int .u8 (a.xd : Int), .int .u8 (a.xf : Int), .int .u8 (a.xg : Int), .int .u8 (a.xb : Int), .int .i32 a.m, .int .u8 (a.pf : Int), .int .u8 (a.pg : Int), .int .u8 (a.pb : Int), .slice a.Al a.nl a.cl]
/-- What is known of an act that came in. -/
structure AcOk (w : World) (a : Ac) : Prop where
  c : -9223372036854775808 ≤ a.c ∧ a.c < 9223372036854775808
  x : CelOk a.xr a.xm a.xn a.xd a.xf a.xg a.xb
  m : R32 a.m
  p : PenOk a.pf a.pg a.pb
  l : LineIn w a.Al a.nl a.cl a.cs
theorem LineIn.below {w w' : World} {A : Option Addr} {n c : Nat} {cs : List Cel} (h : LineIn w A n c cs) (hb : Below w.heap.size w w') : LineIn w' A n c cs := ⟨h.1.below hb, h.2⟩
theorem AcOk.below {w w' : World} {a : Ac} (h : AcOk w a) (hb : Below w.heap.size w w') : AcOk w' a := ⟨h.c, h.x, h.m, h.p, h.l.below hb⟩
theorem do_any {w : World} {G L M R C : Nat} {g : Gd} (h : Grd w G L M R C g) (hok : GOk g R C) (A : Option Addr) (cap : Nat) (hl : Lns w A g.ls) (hS : Spans w) (a : Ac) (ha : AcOk w a) :
    Calls Tryz.prog 10 #[.pointer (some ⟨G, 0, none⟩), .agg #[.slice A R cap, .int .i64 (g.row : Int), .int .i64 (g.col : Int)], .agg #[.int .i64 a.k, .int .i64 a.r, .int .i64 a.c, .int .i64 a.t, .int .i32 a.xr, .int .i32 a.xm, .int .i32 a.xn, .int .u8 (a.xd : Int), .int .u8 (a.xf : Int), .int .u8 (a.xg : Int), .int .u8 (a.xb : Int), .int .i32 a.m, .int .u8 (a.pf : Int), .int .u8 (a.pg : Int), .int .u8 (a.pb : Int), .slice a.Al a.nl a.cl]] w (Did w G L M) := by
  obtain ⟨k, r, c, t, xr, xm, xn, xd, xf, xg, xb, m, pf, pg, pb, Al, nl, cl, cs⟩ := a
  obtain ⟨hc, hx, hm, hp, hI⟩ := ha
  simp only at hc hx hm hp hI ⊢
  by_cases h0 : k = 0
  · subst h0; exact do_put h hok A cap hl hS r c t xr xm xn xd xf xg xb m pf pg pb Al nl cl hc hx
  by_cases h1 : k = 1
  · subst h1; exact do_mark h hok A cap hl hS r c t xr xm xn xd xf xg xb m pf pg pb Al nl cl hm
  by_cases h2 : k = 2
  · subst h2; exact do_erase h hok A cap hl hS r c t xr xm xn xd xf xg xb m pf pg pb Al nl cl
  by_cases h3 : k = 3
  · subst h3; exact do_lay h hok A cap hl hS r c t xr xm xn xd xf xg xb m pf pg pb Al nl cl cs hI
  by_cases h4 : k = 4
  · subst h4; exact do_move h hok A cap hl hS r c t xr xm xn xd xf xg xb m pf pg pb Al nl cl
  by_cases h5 : k = 5
  · subst h5; exact do_scroll h hok A cap hl hS r c t xr xm xn xd xf xg xb m pf pg pb Al nl cl
  by_cases h6 : k = 6
  · subst h6; exact do_fit h hok A cap hl hS r c t xr xm xn xd xf xg xb m pf pg pb Al nl cl
  by_cases h7 : k = 7
  · subst h7; exact do_copy h hok A cap hl hS r c t xr xm xn xd xf xg xb m pf pg pb Al nl cl
  exact do_other h hok A cap hl hS r c t xr xm xn xd xf xg xb m pf pg pb Al nl cl k (by simpa using h0) (by simpa using h1) (by simpa using h2) (by simpa using h3) (by simpa using h4) (by simpa using h5) (by simpa using h6) (by simpa using h7)

/-- Acts that came in. -/
def Acts (w : World) (A : Option Addr) (n : Nat) : Prop := n = 0 ∨ ∃ (b off : Nat) (F : Nat → Ac), A = some ⟨b, off, none⟩ ∧ ∀ i, i < n → (∀ d v, (actL (F i))[d]? = some v → w.cell? ⟨b, off + i * 16 + d, none⟩ = some v) ∧ AcOk w (F i)
theorem Acts.below {w w' : World} {A : Option Addr} {n : Nat} (h : Acts w A n) (hb : Below w.heap.size w w') : Acts w' A n := by
  rcases h with h | ⟨b, off, F, ha, hc⟩
  · exact .inl h
  · refine .inr ⟨b, off, F, ha, fun i hi => ⟨fun d v hv => ?_, (hc i hi).2.below hb⟩⟩
    have := (hc i hi).1 d v hv
    rw [hb.cell (block_lt_of_cell this), this]
theorem Acts.at {w : World} {A : Option Addr} {n i : Nat} (h : Acts w A n) (hi : i < n) : ∃ (b off : Nat) (a : Ac), A = some ⟨b, off, none⟩ ∧ b < w.heap.size ∧ AcOk w a ∧
    (w.cell? ⟨b, off + i * 16, none⟩ = some (.int .i64 a.k) ∧ w.cell? ⟨b, off + i * 16 + 1, none⟩ = some (.int .i64 a.r) ∧ w.cell? ⟨b, off + i * 16 + 2, none⟩ = some (.int .i64 a.c) ∧ w.cell? ⟨b, off + i * 16 + 3, none⟩ = some (.int .i64 a.t) ∧
     w.cell? ⟨b, off + i * 16 + 4, none⟩ = some (.int .i32 a.xr) ∧ w.cell? ⟨b, off + i * 16 + 5, none⟩ = some (.int .i32 a.xm) ∧ w.cell? ⟨b, off + i * 16 + 6, none⟩ = some (.int .i32 a.xn) ∧ w.cell? ⟨b, off + i * 16 + 7, none⟩ = some (.int .u8 (a.xd : Int)) ∧
     w.cell? ⟨b, off + i * 16 + 8, none⟩ = some (.int .u8 (a.xf : Int)) ∧ w.cell? ⟨b, off + i * 16 + 9, none⟩ = some (.int .u8 (a.xg : Int)) ∧ w.cell? ⟨b, off + i * 16 + 10, none⟩ = some (.int .u8 (a.xb : Int)) ∧ w.cell? ⟨b, off + i * 16 + 11, none⟩ = some (.int .i32 a.m) ∧
     w.cell? ⟨b, off + i * 16 + 12, none⟩ = some (.int .u8 (a.pf : Int)) ∧ w.cell? ⟨b, off + i * 16 + 13, none⟩ = some (.int .u8 (a.pg : Int)) ∧ w.cell? ⟨b, off + i * 16 + 14, none⟩ = some (.int .u8 (a.pb : Int)) ∧ w.cell? ⟨b, off + i * 16 + 15, none⟩ = some (.slice a.Al a.nl a.cl)) := by
  rcases h with h | ⟨b, off, F, ha, hc⟩
  · omega
  · obtain ⟨h1, h2⟩ := hc i hi
    exact ⟨b, off, F i, ha, block_lt_of_cell (h1 0 _ rfl), h2, h1 0 _ rfl, h1 1 _ rfl, h1 2 _ rfl, h1 3 _ rfl, h1 4 _ rfl, h1 5 _ rfl, h1 6 _ rfl, h1 7 _ rfl, h1 8 _ rfl, h1 9 _ rfl, h1 10 _ rfl, h1 11 _ rfl, h1 12 _ rfl, h1 13 _ rfl, h1 14 _ rfl, h1 15 _ rfl⟩

/-! ### both grids, carried along -/
/-- The program's grid and the document's, which lies in a struct: one and the same. -/
structure Pair (B : Nat) (w : World) (G L M R C : Nat) (g : Gd) (Q : Nat) (A : Option Addr) (cap : Nat) : Prop where
  grd : Grd w G L M R C g
  ok : GOk g R C
  q : Whole w Q 32 [.slice A R cap, .int .i64 (g.row : Int), .int .i64 (g.col : Int)]
  lns : Lns w A g.ls
  hG : B ≤ G
  hL : B ≤ L
  hM : B ≤ M
  hQ : B ≤ Q
section
variable {B : Nat} {w w' : World} {G L M R C : Nat} {g : Gd} {Q : Nat} {A : Option Addr} {cap : Nat}
theorem Pair.later (h : Pair B w G L M R C g Q A cap) (hb : Below w.heap.size w w') : Pair B w' G L M R C g Q A cap :=
  ⟨h.grd.later hb, h.ok, h.q.later hb, h.lns.below hb, h.hG, h.hL, h.hM, h.hQ⟩
/-- Another pair's blocks turned. -/
theorem Pair.far (h : Pair B w G L M R C g Q A cap) {G' L' M' R' C' : Nat} {g' : Gd} (h' : Grd w G' L' M' R' C' g') (ht : Trn G' L' M' w w') (hGL : G ≠ G' ∧ L ≠ L' ∧ M ≠ M') : Pair B w' G L M R C g Q A cap := by
  have hd := h'
  obtain ⟨cap', ps', room', more', ha'⟩ := h'
  have hg := h.grd
  obtain ⟨cap0, ps0, room0, more0, ha⟩ := h.grd
  refine ⟨hg.far ht ⟨hGL.1, ha.top.ne ha'.lines (by decide), ha.top.ne ha'.piece (by decide)⟩ ⟨ha.lines.ne ha'.top (by decide), hGL.2.1, ha.lines.ne ha'.piece (by decide)⟩ ⟨ha.piece.ne ha'.top (by decide), ha.piece.ne ha'.lines (by decide), hGL.2.2⟩, h.ok,
    ht.whole h.q (h.q.ne ha'.top (by decide)) (h.q.ne ha'.lines (by decide)) (h.q.ne ha'.piece (by decide)), h.lns.turn hd ht, h.hG, h.hL, h.hM, h.hQ⟩
/-- Something was put over another struct. -/
theorem Pair.put3 (h : Pair B w G L M R C g Q A cap) {q : Nat} {l : List Value} (hq : Whole w q 32 l) (hne : Q ≠ q) (x0 x1 x2 : Value) : Pair B (((w.setCell ⟨q, 0, none⟩ x0).setCell ⟨q, 1, none⟩ x1).setCell ⟨q, 2, none⟩ x2) G L M R C g Q A cap :=
  ⟨h.grd.put3 hq _ _ _, h.ok, h.q.same (heap_put3 _ _ _ _ _ _ hne), h.lns.put3 hq (by decide) (by decide) _ _ _, h.hG, h.hL, h.hM, h.hQ⟩
theorem Spans.put3 (hS : Spans w) {q : Nat} (hq : q ≠ 0) (x0 x1 x2 : Value) : Spans (((w.setCell ⟨q, 0, none⟩ x0).setCell ⟨q, 1, none⟩ x1).setCell ⟨q, 2, none⟩ x2) := by
  intro j v hv
  have := hS j v hv
  unfold World.cell? at this ⊢
  simp only at this ⊢
  rw [heap_put3 _ _ _ _ _ _ (Ne.symm hq)]
  exact this
end
end Go.Proofs.YtiifeniijcnahaaGreatDoor
