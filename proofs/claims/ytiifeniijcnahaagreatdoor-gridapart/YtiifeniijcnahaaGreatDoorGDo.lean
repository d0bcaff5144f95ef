/-
  The law's Do: what it leaves; words for it.
-/
import Derived.Test.YtiifeniijcnahaaGreatDoorGRef3
import Derived.Test.YtiifeniijcnahaaGreatDoorGRef5
import Derived.Test.YtiifeniijcnahaaGreatDoorGRef6
namespace Go.Proofs.YtiifeniijcnahaaGreatDoor
set_option maxRecDepth 100000
open Go.ChangeShapes Go.WideShapes Go.ChangeAt Go.RowKit
set_option linter.unusedVariables false

/-- What an act leaves: the program's grid and the document's are one and the same, and right; the answers are the same. -/
def Did (w : World) (G L M : Nat) (e : Ending) (w' : World) : Prop := ∃ g' R' C' G' L' M' A' cap', e = .returned (.tuple #[.pointer (some ⟨G', 0, none⟩), .agg #[.slice A' R' cap', .int .i64 ((g' : Gd).row : Int), .int .i64 (g'.col : Int)], .bool true]) ∧
  Grd w' G' L' M' R' C' g' ∧ Lns w' A' g'.ls ∧ GOk g' R' C' ∧ Trn G L M w w' ∧ (G' = G ∨ w.heap.size ≤ G') ∧ (L' = L ∨ w.heap.size ≤ L') ∧ (M' = M ∨ w.heap.size ≤ M')
section
variable {w W : World} {G L M R C G' L' M' R' C' : Nat} {g g' : Gd}
theorem heap_put3 (w : World) (q : Nat) (x0 x1 x2 : Value) (i : Nat) (h : i ≠ q) : (((w.setCell ⟨q, 0, none⟩ x0).setCell ⟨q, 1, none⟩ x1).setCell ⟨q, 2, none⟩ x2).heap[i]? = w.heap[i]? := by
  rw [Below.heap_setCell _ _ _ _ (by simpa using h), Below.heap_setCell _ _ _ _ (by simpa using h), Below.heap_setCell _ _ _ _ (by simpa using h)]
theorem Grd.put3 (h : Grd W G L M R C g) {q : Nat} {l : List Value} (hq : Whole W q 32 l) (x0 x1 x2 : Value) : Grd (((W.setCell ⟨q, 0, none⟩ x0).setCell ⟨q, 1, none⟩ x1).setCell ⟨q, 2, none⟩ x2) G L M R C g := by
  obtain ⟨cap, ps, room, more, h⟩ := h
  exact ⟨cap, ps, room, more, h.same (heap_put3 _ _ _ _ _ _ (h.top.ne hq (by decide))) (heap_put3 _ _ _ _ _ _ (h.lines.ne hq (by decide))) (heap_put3 _ _ _ _ _ _ (h.piece.ne hq (by decide)))⟩
theorem Trn.put3 (h : Trn G L M w W) {q : Nat} (hq : w.heap.size ≤ q) (x0 x1 x2 : Value) : Trn G L M w (((W.setCell ⟨q, 0, none⟩ x0).setCell ⟨q, 1, none⟩ x1).setCell ⟨q, 2, none⟩ x2) :=
  ⟨h.os, h.tape, h.output, by simpa [World.setCell] using h.size, fun i hi h1 h2 h3 => (heap_put3 _ _ _ _ _ _ (by omega)).trans (h.block i hi h1 h2 h3)⟩
theorem Trn.thenB (h : Trn G L M w W) {W' : World} (hb : Below W.heap.size W W') : Trn G L M w W' := h.trans (L' := L) (Trn.of_below hb) (.inl rfl)
theorem did_end {A' : Option Addr} {cap' : Nat} (hg : Grd W G' L' M' R' C' g') (hl : Lns W A' g'.ls) (hok : GOk g' R' C') (ht : Trn G L M w W) (hG : G' = G ∨ w.heap.size ≤ G') (hL : L' = L ∨ w.heap.size ≤ L') (hM : M' = M ∨ w.heap.size ≤ M') {q : Nat} {l : List Value} (hz : Whole W q 32 l) (hq : w.heap.size ≤ q) (x0 x1 x2 : Value) :
    Did w G L M (.returned (.tuple #[.pointer (some ⟨G', 0, none⟩), .agg #[.slice A' R' cap', .int .i64 (g'.row : Int), .int .i64 (g'.col : Int)], .bool true])) (((W.setCell ⟨q, 0, none⟩ x0).setCell ⟨q, 1, none⟩ x1).setCell ⟨q, 2, none⟩ x2) :=
  ⟨g', R', C', G', L', M', A', cap', rfl, hg.put3 hz _ _ _, hl.put3 hz (by decide) (by decide) _ _ _, hok, ht.put3 hq _ _ _, hG, hL, hM⟩
end
theorem Did.drew {w w' : World} {G L M : Nat} {e : Ending} (h : Did w G L M e w') : Did w G L M e w'.drew := by
  obtain ⟨g', R', C', G', L', M', A', cap', he, h1, h2, h3, h4, h5⟩ := h
  exact ⟨g', R', C', G', L', M', A', cap', he, h1.later ((Below.refl _ _).drewN 1), h2.drewN 1, h3, h4.thenB ((Below.refl _ _).drewN 1), h5⟩
theorem retG3 {R : Ending → World → Prop} {a : Act} {w : World} {fn : Func} {s u t : Nat} {q : Nat} {x0 x1 x2 v v' : Value} (hr : fn.results = #[.tmp u, .cell s 32, .tmp t]) (h4 : a.tmps.getD s undef = .pointer (some ⟨q, 0, none⟩)) (h5 : a.tmps.getD u undef = v) (h6 : a.tmps.getD t undef = v') (hd : a.defers = [])
    (hw : Whole w q 32 [x0, x1, x2]) (hR : R (.returned (.tuple #[v, .agg #[x0, x1, x2], v'])) w) : bodyPost Tryz.prog fn R .ret a w := by
  have c0 : w.cell? ⟨q, 0, none⟩ = some x0 := hw.cell 0
  have c1 : w.cell? ⟨q, 1, none⟩ = some x1 := hw.cell 1
  have c2 : w.cell? ⟨q, 2, none⟩ = some x2 := hw.cell 2
  clear hw
  rw [Array.getD_eq_getD_getElem?] at h4 h5 h6
  exact bodyPost_ret (v := .tuple #[v, .agg #[x0, x1, x2], v']) (by simp [results, hr, h4, h5, h6, c0, c1, c2, go_sem]) hd hR
theorem cells16 {w : World} {q : Nat} {t : TypeId} {x0 x1 x2 x3 x4 x5 x6 x7 x8 x9 y0 y1 y2 y3 y4 y5 : Value} (h : Whole w q t [x0, x1, x2, x3, x4, x5, x6, x7, x8, x9, y0, y1, y2, y3, y4, y5]) :
    w.cell? ⟨q, 0, none⟩ = some x0 ∧ w.cell? ⟨q, 1, none⟩ = some x1 ∧ w.cell? ⟨q, 2, none⟩ = some x2 ∧ w.cell? ⟨q, 3, none⟩ = some x3 ∧ w.cell? ⟨q, 4, none⟩ = some x4 ∧ w.cell? ⟨q, 5, none⟩ = some x5 ∧ w.cell? ⟨q, 6, none⟩ = some x6 ∧ w.cell? ⟨q, 7, none⟩ = some x7 ∧ w.cell? ⟨q, 8, none⟩ = some x8 ∧ w.cell? ⟨q, 9, none⟩ = some x9 ∧ w.cell? ⟨q, 10, none⟩ = some y0 ∧ w.cell? ⟨q, 11, none⟩ = some y1 ∧ w.cell? ⟨q, 12, none⟩ = some y2 ∧ w.cell? ⟨q, 13, none⟩ = some y3 ∧ w.cell? ⟨q, 14, none⟩ = some y4 ∧ w.cell? ⟨q, 15, none⟩ = some y5 ∧ q < w.heap.size :=
  ⟨h.cell 0, h.cell 1, h.cell 2, h.cell 3, h.cell 4, h.cell 5, h.cell 6, h.cell 7, h.cell 8, h.cell 9, h.cell 10, h.cell 11, h.cell 12, h.cell 13, h.cell 14, h.cell 15, h.lt⟩
theorem whole_fth (w : World) (o o2 o3 : Obj) (t : TypeId) (l : List Value) : Whole ((((w.alloc o).alloc o2).alloc o3).alloc (.cells l.toArray t)) (w.heap.size + 3) t l := by
  have := Whole.new (((w.alloc o).alloc o2).alloc o3) t l
  have e : (((w.alloc o).alloc o2).alloc o3).heap.size = w.heap.size + 3 := by simp
  rw [e] at this
  exact this
theorem four_new (w : World) (o o2 o3 o4 : Obj) : Below w.heap.size w ((((w.alloc o).alloc o2).alloc o3).alloc o4) := (three_new w o o2 o3).alloc (by simp; omega) _
/-- A size, brought to what is looked at here. -/
def smallI (n : Int) : Int := if 30 < n ∧ n ≤ 512 then 30 else n
theorem small_any (n : Int) (w : World) : Calls Tryz.prog 5 #[.int .i64 n] w fun e w' => e = .returned (.int .i64 (smallI n)) ∧ w = w' := by
  by_cases h1 : 30 < n
  · by_cases h2 : n ≤ 512
    · have HS : Hid (smallI n = 30) := by unfold Hid smallI; rw [if_pos ⟨h1, h2⟩]
      go_enter Tryz.func5, Tryz.ntmps5
      go_wp2
      go_ret
      exact ⟨by rw [HS.out]; rfl, rfl⟩
    · have HS : Hid (smallI n = n) := by unfold Hid smallI; rw [if_neg (fun q => h2 q.2)]
      go_enter Tryz.func5, Tryz.ntmps5
      go_wp2
      go_ret
      exact ⟨by rw [HS.out]; rfl, rfl⟩
  · have HS : Hid (smallI n = n) := by unfold Hid smallI; rw [if_neg (fun q => h1 q.1)]
    go_enter Tryz.func5, Tryz.ntmps5
    go_wp2
    go_ret
    exact ⟨by rw [HS.out]; rfl, rfl⟩
end Go.Proofs.YtiifeniijcnahaaGreatDoor
