/-
  Emulators in memory: the program's (a struct, a grid, a parser), which blocks turn; the document's (ten values).
  Contracts: whether numbers, events, lists of events are the same (the program's).
  Contracts: the law's own words: whether events are the document's, an event as the document's; a number of an event (both).
  Plain mathematics of layer 9 (emu), on: what the program's steps come to.
-/
import Derived.Test.YtkijclgbpbhglaaGreatDoorQa7
import Derived.Test.YtkijclgbpbhglaaGreatDoorQa12
import Derived.Test.YtkijclgbpbhglaaGreatDoorQa17
import Derived.Test.YtkijclgbpbhglaaGreatDoorQa14
namespace Go.Proofs.YtkijclgbpbhglaaGreatDoor
set_option maxRecDepth 100000
open Go.ChangeShapes Go.WideShapes Go.ChangeAt Go.RowKit
set_option linter.unusedVariables false

/-! ### blocks that turn -/
/-- These blocks alone, and what is new, have turned. -/
structure Ch (xs : List Nat) (w w' : World) : Prop where
  os : w'.os = w.os
  tape : w'.tape = w.tape
  output : w'.output = w.output
  size : w.heap.size ≤ w'.heap.size
  block : ∀ i, i < w.heap.size → i ∉ xs → w'.heap[i]? = w.heap[i]?
section
variable {xs ys : List Nat} {w w' w'' : World}
theorem Ch.refl : Ch xs w w := ⟨rfl, rfl, rfl, Nat.le_refl _, fun _ _ _ => rfl⟩
theorem Ch.trans (h : Ch xs w w') (k : Ch ys w' w'') (hs : ∀ y ∈ ys, y ∈ xs ∨ w.heap.size ≤ y) : Ch xs w w'' :=
  ⟨k.os.trans h.os, k.tape.trans h.tape, k.output.trans h.output, Nat.le_trans h.size k.size, fun i hi hx => (k.block i (Nat.lt_of_lt_of_le hi h.size) (fun q => by rcases hs i q with q | q; exact hx q; omega)).trans (h.block i hi hx)⟩
theorem Ch.of_below (h : Below w.heap.size w w') : Ch xs w w' := ⟨h.os, h.tape, h.output, h.size, fun i hi _ => h.block i hi⟩
theorem Ch.thenB (h : Ch xs w w') (k : Below w'.heap.size w' w'') : Ch xs w w'' := h.trans (ys := []) (.of_below k) (by simp)
theorem Ch.of_trn {G L M : Nat} (h : Trn G L M w w') (h1 : G ∈ xs) (h2 : L ∈ xs) (h3 : M ∈ xs) : Ch xs w w' := ⟨h.os, h.tape, h.output, h.size, fun i hi hx => h.block i hi (fun q => hx (q ▸ h1)) (fun q => hx (q ▸ h2)) (fun q => hx (q ▸ h3))⟩
theorem Ch.of_only {g : Nat} (h : Only g w w') (h1 : g ∈ xs) : Ch xs w w' := ⟨h.os, h.tape, h.output, h.size, fun i hi hx => h.block i hi (by intro q; simp at q; exact hx (q ▸ h1))⟩
theorem Ch.of_fr {g : Nat} (h : Fr w.heap.size g w w') (h1 : g ∈ xs) : Ch xs w w' := ⟨h.os, h.tape, h.output, h.size, fun i hi hx => h.block i hi (fun q => hx (q ▸ h1))⟩
theorem Ch.put {g i : Nat} {u : Value} (h1 : g ∈ xs) : Ch xs w (w.setCell ⟨g, i, none⟩ u) := .of_only (Only.put i u) h1
theorem Ch.below {B : Nat} {a : World} (h : Ch xs w w') (hb : Below B a w) (hB : B ≤ w.heap.size) (hx : ∀ x ∈ xs, B ≤ x) : Below B a w' :=
  ⟨h.os.trans hb.os, h.tape.trans hb.tape, h.output.trans hb.output, Nat.le_trans hb.size h.size, fun i hi => (h.block i (by omega) (fun q => by have := hx i q; omega)).trans (hb.block i hi)⟩
theorem Ch.whole (h : Ch xs w w') {q : Nat} {t : TypeId} {l : List Value} (hw : Whole w q t l) (hq : q ∉ xs) : Whole w' q t l := hw.same (h.block q hw.lt hq)
theorem Ch.ints (h : Ch xs w w') {k : IntKind} {A : Option Addr} {zs : List Int} (hi : Ints k w A zs) (hA : ∀ a, A = some a → 0 < zs.length → a.block ∉ xs) : Ints k w' A zs := by
  rcases hi with hi | ⟨b, off, ha, hc⟩
  · exact .inl hi
  · refine .inr ⟨b, off, ha, fun i hi => ?_⟩
    have hlt := block_lt_of_cell (hc i hi)
    rw [← hc i hi]
    simp only [World.cell?, h.block b hlt (hA _ ha (by omega))]
end

/-! ### the program's emulator -/
/-- Where it lies: its struct, its grid's struct and piece, its parser (the rows' values lie in a block L, which may turn). -/
structure Bl where
  E : Nat
  G : Nat
  M : Nat
  P : Nat
def Bl.l (b : Bl) (L : Nat) : List Nat := [b.E, b.G, L, b.M, b.P]
def emuL (b : Bl) (e : Em) : List Value := [.pointer (some ⟨b.G, 0, none⟩), .pointer (some ⟨b.P, 0, none⟩), .int .u8 (e.pen.f : Int), .int .u8 (e.pen.g : Int), .int .u8 (e.pen.b : Int), .bool e.wrap]
structure Emu (w : World) (b : Bl) (L R C : Nat) (e : Em) : Prop where
  top : Whole w b.E 95 (emuL b e)
  grd : Grd w b.G L b.M R C e.g
  par : Pr w b.P e.p
  ok : EOk e R C
  sp : Spans w
section
variable {w w' w1 : World} {b : Bl} {L R C : Nat} {e e' : Em}
theorem Emu.six (h : Emu w b L R C e) : w.cell? ⟨b.E, 0, none⟩ = some (.pointer (some ⟨b.G, 0, none⟩)) ∧ w.cell? ⟨b.E, 1, none⟩ = some (.pointer (some ⟨b.P, 0, none⟩)) ∧ w.cell? ⟨b.E, 2, none⟩ = some (.int .u8 (e.pen.f : Int)) ∧ w.cell? ⟨b.E, 3, none⟩ = some (.int .u8 (e.pen.g : Int)) ∧ w.cell? ⟨b.E, 4, none⟩ = some (.int .u8 (e.pen.b : Int)) ∧ w.cell? ⟨b.E, 5, none⟩ = some (.bool e.wrap) ∧ b.E < w.heap.size :=
  ⟨h.top.cell 0, h.top.cell 1, h.top.cell 2, h.top.cell 3, h.top.cell 4, h.top.cell 5, h.top.lt⟩
theorem Emu.lts (h : Emu w b L R C e) : b.E < w.heap.size ∧ b.G < w.heap.size ∧ L < w.heap.size ∧ b.M < w.heap.size ∧ b.P < w.heap.size := ⟨h.top.lt, h.grd.ltG, h.grd.ltL, h.grd.ltM, h.par.lt⟩
theorem Emu.lt (h : Emu w b L R C e) : ∀ x ∈ b.l L, x < w.heap.size := by
  obtain ⟨h1, h2, h3, h4, h5⟩ := h.lts
  intro x hx
  simp only [Bl.l, List.mem_cons, List.not_mem_nil, or_false] at hx
  omega
/-- A block of another type is none of its own. -/
theorem Emu.other (h : Emu w b L R C e) {q : Nat} {t : TypeId} {l : List Value} (hw : Whole w q t l) (ht : t ≠ 95 ∧ t ≠ 113 ∧ t ≠ 97 ∧ t ≠ 73 ∧ t ≠ 93) : q ∉ b.l L := by
  obtain ⟨cap, ps, room, more, hg⟩ := h.grd
  obtain ⟨lp, hp⟩ := h.par.whole
  intro q'
  simp only [Bl.l, List.mem_cons, List.not_mem_nil, or_false] at q'
  rcases q' with rfl | rfl | rfl | rfl | rfl
  · exact hw.ne h.top ht.1 rfl
  · exact hw.ne hg.top ht.2.1 rfl
  · exact hw.ne hg.lines ht.2.2.1 rfl
  · exact hw.ne hg.piece ht.2.2.2.1 rfl
  · exact hw.ne hp ht.2.2.2.2 rfl
theorem Emu.stays (h : Emu w b L R C e) (hc : Ch (b.l L) w w') {t : TypeId} (ht : t ≠ 95 ∧ t ≠ 113 ∧ t ≠ 97 ∧ t ≠ 73 ∧ t ≠ 93) : Stays t w w' := by
  intro q cur hq
  have hw : Whole w q t cur.toList := by unfold Whole; simpa using hq
  exact hc.block q hw.lt (h.other hw ht)
theorem Emu.nes (h : Emu w b L R C e) : (b.E ≠ b.G ∧ b.E ≠ L ∧ b.E ≠ b.M ∧ b.E ≠ b.P) ∧ (b.P ≠ b.G ∧ b.P ≠ L ∧ b.P ≠ b.M) := by
  obtain ⟨cap, ps, room, more, hg⟩ := h.grd
  obtain ⟨lp, hp⟩ := h.par.whole
  exact ⟨⟨h.top.ne hg.top (by decide), h.top.ne hg.lines (by decide), h.top.ne hg.piece (by decide), h.top.ne hp (by decide)⟩, hp.ne hg.top (by decide), hp.ne hg.lines (by decide), hp.ne hg.piece (by decide)⟩
theorem Grd.same {G M : Nat} {g : Gd} (h : Grd w G L M R C g) (hG : w'.heap[G]? = w.heap[G]?) (hL : w'.heap[L]? = w.heap[L]?) (hM : w'.heap[M]? = w.heap[M]?) : Grd w' G L M R C g := by
  obtain ⟨cap, ps, room, more, hg⟩ := h
  exact ⟨cap, ps, room, more, hg.same hG hL hM⟩
theorem Spans.ch {xs : List Nat} (hS : Spans w) (hc : Ch xs w w') (h0 : 0 ∉ xs) : Spans w' := by
  intro j v hv
  have := hS j v hv
  unfold World.cell? at this ⊢
  simp only at this ⊢
  rw [hc.block 0 hS.size h0]
  exact this
/-- Where none of its blocks has turned. -/
theorem Emu.far {xs : List Nat} (h : Emu w b L R C e) (hc : Ch xs w w') (hx : ∀ x ∈ b.l L, x ∉ xs) (h0 : 0 ∉ xs) : Emu w' b L R C e := by
  obtain ⟨l1, l2, l3, l4, l5⟩ := h.lts
  have k : ∀ x, x ∈ b.l L → x < w.heap.size → w'.heap[x]? = w.heap[x]? := fun x hx' hl => hc.block x hl (hx x hx')
  exact ⟨h.top.same (k _ (by simp [Bl.l]) l1), h.grd.same (k _ (by simp [Bl.l]) l2) (k _ (by simp [Bl.l]) l3) (k _ (by simp [Bl.l]) l4), h.par.same (k _ (by simp [Bl.l]) l5), h.ok, h.sp.ch hc h0⟩
theorem Emu.later (h : Emu w b L R C e) (hb : Below w.heap.size w w') : Emu w' b L R C e := h.far (xs := []) (.of_below hb) (by simp) (by simp)
theorem Emu.drew (h : Emu w b L R C e) : Emu w.drew b L R C e := h.later ((Below.refl _ _).drewN 1)
/-- The table is none of its blocks. -/
theorem Emu.no0 (h : Emu w b L R C e) : 0 ∉ b.l L := by
  have e0 : w.cell? ⟨0, 0, none⟩ = some (.int .i32 0) := h.sp 0 (.int .i32 0) rfl
  have e2 : ∃ x, w.cell? ⟨0, 2, none⟩ = some (.int .i64 x) := ⟨_, h.sp 2 _ rfl⟩
  have hR := h.ok.g.r1
  obtain ⟨cap, ps, room, more, hg⟩ := h.grd
  intro q'
  simp only [Bl.l, List.mem_cons, List.not_mem_nil, or_false] at q'
  rcases q' with q | q | q | q | q
  · have := h.top.cell 0
    rw [← q, e0] at this
    cases this
  · have := hg.top.cell 0
    rw [← q, e0] at this
    cases this
  · have := hg.row (i := 0) (by omega)
    rw [← q, e0] at this
    cases this
  · obtain ⟨x, e2⟩ := e2
    rw [q, hg.piece.cell] at e2
    have hm := List.mem_of_getElem? e2
    unfold flatC at hm
    obtain ⟨c, _, hc⟩ := List.mem_flatMap.1 hm
    simp [cellL] at hc
  · obtain ⟨l, ha, b4, hb4, hw, _⟩ := h.par
    have := hw.cell 0
    rw [← q, e0] at this
    match b4, hb4 with
    | x :: _, _ => simp at this
end

/-! ### what a call leaves of an emulator -/
/-- From world w, where its rows' values lay in L, to w', where they lie in L', and it is e'. -/
structure At (b : Bl) (w : World) (L : Nat) (w' : World) (L' R C : Nat) (e' : Em) : Prop where
  near : L' = L ∨ w.heap.size ≤ L'
  emu : Emu w' b L' R C e'
  ch : Ch (b.l L) w w'
section
variable {w w' w1 w2 : World} {b : Bl} {L L' L1 L2 R C : Nat} {e e' e1 e2 : Em}
theorem near_mem (h : L' = L ∨ w.heap.size ≤ L') : ∀ y ∈ b.l L', y ∈ b.l L ∨ w.heap.size ≤ y := by
  intro y hy
  simp only [Bl.l, List.mem_cons, List.not_mem_nil, or_false] at hy ⊢
  omega
theorem At.refl (h : Emu w b L R C e) : At b w L w L R C e := ⟨.inl rfl, h, .refl⟩
theorem At.trans (h : At b w L w1 L1 R C e1) (k : At b w1 L1 w2 L2 R C e2) : At b w L w2 L2 R C e2 := ⟨by have := h.near; have := k.near; have := h.ch.size; omega, k.emu, h.ch.trans k.ch (near_mem h.near)⟩
theorem At.later (h : At b w L w1 L1 R C e1) (hb : Below w1.heap.size w1 w2) : At b w L w2 L1 R C e1 := ⟨h.near, h.emu.later hb, h.ch.thenB hb⟩
theorem At.drew (h : At b w L w1 L1 R C e1) : At b w L w1.drew L1 R C e1 := h.later ((Below.refl _ _).drewN 1)
theorem At.first (hb : Below w.heap.size w w1) (h : At b w1 L w2 L1 R C e1) : At b w L w2 L1 R C e1 := ⟨by have := h.near; have := hb.size; omega, h.emu, (Ch.of_below hb).trans h.ch (fun y hy => .inl hy)⟩
theorem At.eq (h : At b w L w1 L1 R C e1) (he : e1 = e2) : At b w L w1 L1 R C e2 := he ▸ h
/-- The grid has turned. -/
theorem Emu.trn (h : Emu w b L R C e) {g' : Gd} (hg : Grd w' b.G L' b.M R C g') (ht : Trn b.G L b.M w w') (hL : L' = L ∨ w.heap.size ≤ L') (hok : GOk g' R C) : At b w L w' L' R C { e with g := g' } := by
  have hc : Ch (b.l L) w w' := .of_trn ht (by simp [Bl.l]) (by simp [Bl.l]) (by simp [Bl.l])
  obtain ⟨⟨n1, n2, n3, n4⟩, n5, n6, n7⟩ := h.nes
  exact ⟨hL, ⟨h.top.same (ht.block _ h.top.lt n1 n2 n3), hg, h.par.same (ht.block _ h.par.lt n5 n6 n7), ⟨hok, h.ok.p, h.ok.pen⟩, h.sp.ch hc h.no0⟩, hc⟩
theorem Emu.trn0 (h : Emu w b L R C e) {g' : Gd} (hg : Grd w' b.G L b.M R C g') (ht : Trn b.G L b.M w w') (hok : GOk g' R C) : At b w L w' L R C { e with g := g' } := h.trn hg ht (.inl rfl) hok
/-- Its parser has turned. -/
theorem Emu.fr (h : Emu w b L R C e) {p' : Ps} (hp : Pr w' b.P p') (hf : Fr w.heap.size b.P w w') (hok : PsOk p') : At b w L w' L R C (setP e p') := by
  have hc : Ch (b.l L) w w' := .of_fr hf (by simp [Bl.l])
  obtain ⟨⟨n1, n2, n3, n4⟩, n5, n6, n7⟩ := h.nes
  exact ⟨.inl rfl, ⟨h.top.same (hf.block _ h.top.lt n4), h.grd.same (hf.block _ h.grd.ltG (Ne.symm n5)) (hf.block _ h.grd.ltL (Ne.symm n6)) (hf.block _ h.grd.ltM (Ne.symm n7)), hp, ⟨h.ok.g, hok, h.ok.pen⟩, h.sp.ch hc h.no0⟩, hc⟩
/-- Its struct has turned. -/
theorem Emu.struct (h : Emu w b L R C e) {l : List Value} (hw : Whole w' b.E 95 l) (ho : Only b.E w w') {e' : Em} (hl : l = emuL b e') (hg : e'.g = e.g) (hp : e'.p = e.p) (hr : rightN e'.pen = true) : At b w L w' L R C e' := by
  have hc : Ch (b.l L) w w' := .of_only ho (by simp [Bl.l])
  obtain ⟨⟨n1, n2, n3, n4⟩, n5, n6, n7⟩ := h.nes
  have k : ∀ i, i < w.heap.size → b.E ≠ i → w'.heap[i]? = w.heap[i]? := fun i hi hne => ho.block i hi (by simp; exact Ne.symm hne)
  exact ⟨.inl rfl, ⟨hl ▸ hw, by rw [hg]; exact h.grd.same (k _ h.grd.ltG n1) (k _ h.grd.ltL n2) (k _ h.grd.ltM n3), by rw [hp]; exact h.par.same (k _ h.par.lt n4), ⟨by rw [hg]; exact h.ok.g, by rw [hp]; exact h.ok.p, hr⟩, h.sp.ch hc h.no0⟩, hc⟩
/-- It is about to wrap, or isn't. -/
theorem Emu.wrap (h : Emu w b L R C e) (x : Bool) : At b w L (w.setCell ⟨b.E, 5, none⟩ (.bool x)) L R C { e with wrap := x } :=
  h.struct (h.top.put 5 _) (Only.put 5 _) rfl rfl rfl h.ok.pen
theorem Emu.pens (h : Emu w b L R C e) (p : Pn) (hp : rightN p = true) : At b w L (((w.setCell ⟨b.E, 2, none⟩ (.int .u8 (p.f : Int))).setCell ⟨b.E, 3, none⟩ (.int .u8 (p.g : Int))).setCell ⟨b.E, 4, none⟩ (.int .u8 (p.b : Int))) L R C { e with pen := p } :=
  h.struct (((h.top.put 2 _).put 3 _).put 4 _) (((Only.put 2 _).trans (Only.put 3 _)).trans (Only.put 4 _)) rfl rfl rfl hp
/-- A block of the caller's own stays. -/
theorem Emu.keeps (h : Emu w b L R C e) (k : At b w L w' L' R C e') {q : Nat} {t : TypeId} {l : List Value} (hw : Whole w q t l) (ht : t ≠ 95 ∧ t ≠ 113 ∧ t ≠ 97 ∧ t ≠ 73 ∧ t ≠ 93) : Whole w' q t l := k.ch.whole hw (h.other hw ht)
end

/-- All its blocks lie from a bound on. -/
def Low (B : Nat) (b : Bl) (L : Nat) : Prop := ∀ x ∈ b.l L, B ≤ x
section
variable {w w' : World} {b : Bl} {L L' R C B : Nat} {e e' : Em}
theorem Low.at (h : Low B b L) (k : At b w L w' L' R C e') (hB : B ≤ w.heap.size) : Low B b L' := by
  intro x hx
  rcases near_mem k.near x hx with q | q
  · exact h x q
  · omega
theorem IntsT.turn {k : IntKind} {A : Option Addr} {ns : List Int} {t : TypeId} (hi : IntsT B t k w A ns) (hm : Emu w b L R C e) (hc : Ch (b.l L) w w') (hl : Low B b L) (hB : B ≤ w.heap.size) (ht : t ≠ 95 ∧ t ≠ 113 ∧ t ≠ 97 ∧ t ≠ 73 ∧ t ≠ 93) : IntsT B t k w' A ns :=
  hi.keep (fun q hq => hc.block q (by omega) (fun hx => by have := hl q hx; omega)) (hm.stays hc ht)
theorem Evs.turn {k : IntKind} {A : Option Addr} {es : List Ev} {te : TypeId} (h : Evs B te k w A es) (hm : Emu w b L R C e) (hc : Ch (b.l L) w w') (hl : Low B b L) (hB : B ≤ w.heap.size) (ht : te ≠ 95 ∧ te ≠ 113 ∧ te ≠ 97 ∧ te ≠ 73 ∧ te ≠ 93) : Evs B te k w' A es :=
  h.keep (fun q hq => hc.block q (by omega) (fun hx => by have := hl q hx; omega)) (hm.stays hc (by decide)) (hm.stays hc ht)
end

/-! ### the document's emulator: ten values -/
/-- Where its rows, its parser's numbers and what is held lie. -/
structure Dv where
  A : Option Addr
  cap : Nat
  N : Option Addr
  ln : Nat
  cn : Nat
  H : Option Addr
  lh : Nat
  ch : Nat
structure Doc (w : World) (d : Dv) (e : Em) : Prop where
  lns : Lns w d.A e.g.ls
  dp : Dp w e.p d.N d.ln d.cn d.H d.lh d.ch
section
variable {w w' w1 : World} {d : Dv} {R C : Nat} {e : Em}
theorem Doc.keep (h : Doc w d e) (h1 : Stays 166 w w') (h2 : Stays 132 w w') (h3 : Stays 3 w w') (h5 : Stays 5 w w') : Doc w' d e := ⟨h.lns.keep h1 h2, h.dp.keep h3 h5⟩
theorem Doc.below (h : Doc w d e) (hb : Below w.heap.size w w') : Doc w' d e := h.keep (.of_below hb) (.of_below hb) (.of_below hb) (.of_below hb)
theorem Doc.turn {b : Bl} {L : Nat} {e' : Em} (h : Doc w d e) (hm : Emu w b L R C e') (hc : Ch (b.l L) w w') : Doc w' d e := h.keep (hm.stays hc (by decide)) (hm.stays hc (by decide)) (hm.stays hc (by decide)) (hm.stays hc (by decide))
end
end Go.Proofs.YtkijclgbpbhglaaGreatDoor

namespace Go.Proofs.YtkijclgbpbhglaaGreatDoor
set_option maxRecDepth 100000
open Go.ChangeShapes Go.WideShapes Go.ChangeAt Go.RowKit
set_option linter.unusedVariables false

theorem Ev.same {a b : Ev} : a = b ↔ a.k = b.k ∧ a.r = b.r ∧ a.n = b.n := by
  cases a; cases b; simp

end Go.Proofs.YtkijclgbpbhglaaGreatDoor

namespace Go.Proofs.YtkijclgbpbhglaaGreatDoor
set_option maxRecDepth 100000
open Go.ChangeShapes Go.WideShapes Go.ChangeAt Go.RowKit
set_option linter.unusedVariables false

/-! ### an event as the document's -/
/-! ### a number of an event -/
def numP (ns : List Int) (at_ none_ : Int) : Int := if at_ < 0 ∨ (ns.length : Int) ≤ at_ ∨ ns.getD at_.toNat 0 = -1 then none_ else ns.getD at_.toNat 0
end Go.Proofs.YtkijclgbpbhglaaGreatDoor

namespace Go.Proofs.YtkijclgbpbhglaaGreatDoor
set_option maxRecDepth 100000
set_option linter.unusedVariables false

theorem near_in {k : Nat} {n : Nat} {x : Int} (h : x = (k : Int)) (hk : k < n) : nearN x n = k := by subst h; exact nearN_self k n hk
section
variable {g : Gd} {R C : Nat}
theorem move_row (h : GOk g R C) (c : Int) : moveG g (g.row : Int) c C = ⟨g.ls, g.row, nearN c C⟩ := by
  unfold moveG
  rw [h.len, nearN_self _ _ h.row]
theorem move_0 (h : GOk g R C) : moveG g (g.row : Int) 0 C = { g with col := 0 } := by
  rw [move_row h, near_in (k := 0) (x := 0) rfl (by have := h.c1; omega)]
theorem feed_low (h : GOk g R C) (hr : ¬ g.row + 1 = R) (bp : Pn) : feedG g C bp = moveG g ((g.row : Int) + 1) (g.col : Int) C := by
  have h1 := h.row
  unfold feedG moveG
  rw [h.len, if_neg hr, near_in (k := g.row + 1) (by omega) (by omega), nearN_self _ _ h.col]
theorem feed_last (h : GOk g R C) (hr : g.row + 1 = R) (bp : Pn) : feedG g C bp = scrollG g C 1 bp := by
  unfold feedG
  rw [h.len, if_pos hr]
/-- A number brought to 1 .. 512. -/
def ordN (x : Int) : Int := min (max x 1) 512
theorem ordN_range (x : Int) : 1 ≤ ordN x ∧ ordN x ≤ 512 := by unfold ordN; omega
theorem near_up (k n : Nat) (x : Int) (hk : k < n) (hn : n ≤ 512) : nearN ((k : Int) + -ordN x) n = nearN ((k : Int) - oneN x) n := by unfold nearN ordN oneN; omega
theorem near_dn (k n : Nat) (x : Int) (hk : k < n) (hn : n ≤ 512) : nearN ((k : Int) + ordN x) n = nearN ((k : Int) + oneN x) n := by unfold nearN ordN oneN; omega
theorem near_at (n : Nat) (x : Int) (hn : n ≤ 512) : nearN (ordN x - 1) n = nearN (oneN x - 1) n := by unfold nearN ordN oneN; omega
theorem move_up (h : GOk g R C) (x : Int) : moveG g ((g.row : Int) + -ordN x) ((g.col : Int) + 0) C = moveG g ((g.row : Int) - oneN x) (g.col : Int) C := by
  unfold moveG
  rw [h.len, near_up _ _ _ h.row h.r2, Int.add_zero]
theorem move_dn (h : GOk g R C) (x : Int) : moveG g ((g.row : Int) + ordN x) ((g.col : Int) + 0) C = moveG g ((g.row : Int) + oneN x) (g.col : Int) C := by
  unfold moveG
  rw [h.len, near_dn _ _ _ h.row h.r2, Int.add_zero]
theorem move_rt (h : GOk g R C) (x : Int) : moveG g ((g.row : Int) + 0) ((g.col : Int) + ordN x) C = moveG g (g.row : Int) ((g.col : Int) + oneN x) C := by
  unfold moveG
  rw [h.len, near_dn _ _ _ h.col h.c2, Int.add_zero]
theorem move_lf (h : GOk g R C) (x : Int) : moveG g ((g.row : Int) + 0) ((g.col : Int) + -ordN x) C = moveG g (g.row : Int) ((g.col : Int) - oneN x) C := by
  unfold moveG
  rw [h.len, near_up _ _ _ h.col h.c2, Int.add_zero]
theorem move_at (h : GOk g R C) (x y : Int) : moveG g (ordN x - 1) (ordN y - 1) C = moveG g (oneN x - 1) (oneN y - 1) C := by
  unfold moveG
  rw [h.len, near_at _ _ h.r2, near_at _ _ h.c2]
end
/-- The number that the program asks for, and the document's. -/
theorem numP_nAt (ns : List Int) (i : Nat) (d : Int) : numP ns (i : Int) d = nAt ns i d := by
  unfold numP nAt
  rw [Int.toNat_natCast]
  by_cases h : ns.length ≤ i ∨ ns.getD i 0 = -1
  · rw [if_pos h, if_pos (by omega)]
  · rw [if_neg h, if_neg (by omega)]

/-! ### a scalar that is shown -/
theorem ready_is {e : Em} {R C : Nat} (h : EOk e R C) (n : Int) (hn : e.wrap = true ∨ (C : Int) - (e.g.col : Int) < n) : readyG e C n = feedG (moveG e.g (e.g.row : Int) 0 C) C (blankP e.pen) := by
  unfold readyG
  rw [if_pos hn, move_0 h.g]
theorem ready_no {e : Em} {C : Nat} (n : Int) (hw : e.wrap = false) (hn : n ≤ (C : Int) - (e.g.col : Int)) : readyG e C n = e.g := by
  unfold readyG
  rw [if_neg (by rw [hw]; simp; omega)]
theorem ready_fits {e : Em} {R C : Nat} (h : EOk e R C) (n : Int) (hn : n ≤ (C : Int)) : ((readyG e C n).col : Int) + n ≤ (C : Int) := by
  unfold readyG
  split
  · have : (feedG { e.g with col := 0 } C (blankP e.pen)).col = 0 := by unfold feedG scrollG; split <;> (try split) <;> rfl
    rw [this]
    omega
  · omega
theorem put_row (g : Gd) (r c : Int) (x : Cel) : (putG g r c x).row = g.row ∧ (putG g r c x).col = g.col ∧ (putG g r c x).ls.length = g.ls.length := by
  unfold putG
  split <;> simp
theorem show_is {e : Em} {R C : Nat} (h : EOk e R C) (r : Int) (h0 : ¬ wOf r = 0) (h1 : ¬ (wOf r < 1 ∨ (C : Int) < wOf r)) (g1 : Gd) (hg : readyG e C (wOf r) = g1) :
    typedE e C r = { e with g := moveG (putG g1 g1.row g1.col (ofC r e.pen).1) ((g1.row : Int) + 0) ((g1.col : Int) + wOf r) C, wrap := decide (wOf r = (C : Int) - (g1.col : Int)) } := by
  have hf := ready_fits h (wOf r) (by omega)
  have hok := readyG_ok h (wOf r)
  rw [hg] at hf hok
  have hp := put_row g1 g1.row g1.col (ofC r e.pen).1
  have hr := hok.row
  unfold typedE
  rw [if_neg h0, if_neg h1, hg]
  unfold moveG
  rw [Int.add_zero, hp.2.2, hok.len, nearN_self _ _ hr]
  have c1 := hok.c1
  by_cases hq : (C : Int) ≤ (g1.col : Int) + wOf r
  · rw [if_pos hq, decide_eq_true (by omega), (by unfold nearN; omega : nearN ((g1.col : Int) + wOf r) C = C - 1)]
    show (⟨⟨_, (putG g1 g1.row g1.col (ofC r e.pen).1).row, _⟩, _, _, _⟩ : Em) = _
    rw [hp.1]
  · rw [if_neg hq, decide_eq_false (by omega), near_in (k := g1.col + (wOf r).toNat) (by omega) (by omega)]
    show (⟨⟨_, (putG g1 g1.row g1.col (ofC r e.pen).1).row, _⟩, _, _, _⟩ : Em) = _
    rw [hp.1]

/-! ### rows that are erased -/
def eraseFrom (g : Gd) (C : Nat) (bp : Pn) (a : Nat) : Nat → Gd
  | 0 => g
  | n + 1 => eraseG (eraseFrom g C bp a n) ((a + n : Nat) : Int) 0 (C : Int) bp
theorem eraseTo_no (g : Gd) (C : Nat) (k : Int) (bp : Pn) : ∀ n, (∀ r, r < n → allRow k g.row r = false) → eraseTo g C k bp n = g := by
  intro n
  induction n with
  | zero => intro _; rfl
  | succ n ih =>
    intro h
    unfold eraseTo
    rw [h n (by omega), if_neg (by simp)]
    exact ih (fun r hr => h r (by omega))
theorem eraseTo_on (g : Gd) (C : Nat) (k : Int) (bp : Pn) (a : Nat) (h0 : ∀ r, r < a → allRow k g.row r = false) : ∀ n, (∀ r, a ≤ r → r < a + n → allRow k g.row r = true) → eraseTo g C k bp (a + n) = eraseFrom g C bp a n := by
  intro n
  induction n with
  | zero => intro _; exact eraseTo_no g C k bp a h0
  | succ n ih =>
    intro h
    rw [← Nat.add_assoc]
    unfold eraseTo eraseFrom
    rw [h (a + n) (by omega) (by omega), if_pos rfl, ih (fun r h1 h2 => h r h1 (by omega))]
theorem eraseTo_off (g : Gd) (C : Nat) (k : Int) (bp : Pn) (a : Nat) : ∀ n, (∀ r, a ≤ r → r < a + n → allRow k g.row r = false) → eraseTo g C k bp (a + n) = eraseTo g C k bp a := by
  intro n
  induction n with
  | zero => intro _; rfl
  | succ n ih =>
    intro h
    rw [← Nat.add_assoc]
    conv => lhs; unfold eraseTo
    rw [h (a + n) (by omega) (by omega), if_neg (by simp)]
    exact ih (fun r h1 h2 => h r h1 (by omega))
section
variable {g : Gd} {R C : Nat}
theorem rows_0 (h : GOk g R C) (bp : Pn) : eraseTo g C 0 bp g.ls.length = eraseFrom g C bp (g.row + 1) (R - (g.row + 1)) := by
  have hr := h.row
  rw [h.len]
  conv => lhs; rw [show R = g.row + 1 + (R - (g.row + 1)) by omega]
  exact eraseTo_on g C 0 bp (g.row + 1) (fun r hr => by unfold allRow; simp; omega) _ (fun r h1 h2 => by unfold allRow; simp; omega)
theorem rows_1 (h : GOk g R C) (bp : Pn) : eraseTo g C 1 bp g.ls.length = eraseFrom g C bp 0 g.row := by
  have hr := h.row
  rw [h.len]
  conv => lhs; rw [show R = g.row + (R - g.row) by omega]
  rw [eraseTo_off g C 1 bp g.row _ (fun r h1 h2 => by unfold allRow; simp; omega)]
  have := eraseTo_on g C 1 bp 0 (fun r hr => by omega) g.row (fun r h1 h2 => by unfold allRow; simp; omega)
  rwa [Nat.zero_add] at this
theorem rows_2 (h : GOk g R C) (bp : Pn) : eraseTo g C 2 bp g.ls.length = eraseFrom g C bp 0 R := by
  rw [h.len]
  have := eraseTo_on g C 2 bp 0 (fun r hr => by omega) R (fun r h1 h2 => by unfold allRow; simp)
  rwa [Nat.zero_add] at this
theorem rows_no (k : Int) (h0 : ¬ k = 0) (h1 : ¬ k = 1) (h2 : ¬ k = 2) (bp : Pn) : eraseTo g C k bp g.ls.length = g :=
  eraseTo_no g C k bp _ (fun r _ => by unfold allRow; simp [h0, h1, h2])
end
end Go.Proofs.YtkijclgbpbhglaaGreatDoor
