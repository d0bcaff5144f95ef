/-
  A frame in a block: nine cells; what returns one; a frame that came in, opened; a number read over states.
-/
import Derived.Test.YtcbdokocnjoilaaGreatDoorH20
import Derived.Test.YtcbdokocnjoilaaGreatDoorH17
import Derived.Test.YtcbdokocnjoilaaGreatDoorH10
import Derived.Test.YtcbdokocnjoilaaGreatDoorH11
namespace Go.Proofs.YtcbdokocnjoilaaGreatDoor
set_option maxRecDepth 100000
open Go.ChangeShapes Go.WideShapes Go.ChangeAt Go.RowKit
set_option linter.unusedVariables false

abbrev set9 (w : World) (q : Nat) (x0 x1 x2 x3 x4 x5 x6 x7 x8 : Value) : World := ((((((((w.setCell ⟨q, 0, none⟩ x0).setCell ⟨q, 1, none⟩ x1).setCell ⟨q, 2, none⟩ x2).setCell ⟨q, 3, none⟩ x3).setCell ⟨q, 4, none⟩ x4).setCell ⟨q, 5, none⟩ x5).setCell ⟨q, 6, none⟩ x6).setCell ⟨q, 7, none⟩ x7).setCell ⟨q, 8, none⟩ x8
section
variable {w W : World} {q B : Nat} {t t' : TypeId} {l : List Value} {y0 y1 y2 y3 y4 y5 y6 y7 y8 : Value}
theorem put9 (hw : Whole w q t [y0, y1, y2, y3, y4, y5, y6, y7, y8]) (x0 x1 x2 x3 x4 x5 x6 x7 x8 : Value) : Whole (set9 w q x0 x1 x2 x3 x4 x5 x6 x7 x8) q t [x0, x1, x2, x3, x4, x5, x6, x7, x8] :=
  ((((((((hw.put 0 x0).put 1 x1).put 2 x2).put 3 x3).put 4 x4).put 5 x5).put 6 x6).put 7 x7).put 8 x8
theorem below_put9 (h : Below B W w) (hq : B ≤ q) (x0 x1 x2 x3 x4 x5 x6 x7 x8 : Value) : Below B W (set9 w q x0 x1 x2 x3 x4 x5 x6 x7 x8) :=
  ((((((((h.setCell (p := ⟨q, 0, none⟩) hq x0).setCell (p := ⟨q, 1, none⟩) hq x1).setCell (p := ⟨q, 2, none⟩) hq x2).setCell (p := ⟨q, 3, none⟩) hq x3).setCell (p := ⟨q, 4, none⟩) hq x4).setCell (p := ⟨q, 5, none⟩) hq x5).setCell (p := ⟨q, 6, none⟩) hq x6).setCell (p := ⟨q, 7, none⟩) hq x7).setCell (p := ⟨q, 8, none⟩) hq x8
theorem heap_put9 (w : World) (q : Nat) (x0 x1 x2 x3 x4 x5 x6 x7 x8 : Value) (i : Nat) (h : i ≠ q) : (set9 w q x0 x1 x2 x3 x4 x5 x6 x7 x8).heap[i]? = w.heap[i]? := by
  unfold set9
  rw [Below.heap_setCell _ _ _ _ (by simpa using h), Below.heap_setCell _ _ _ _ (by simpa using h), Below.heap_setCell _ _ _ _ (by simpa using h), Below.heap_setCell _ _ _ _ (by simpa using h), Below.heap_setCell _ _ _ _ (by simpa using h), Below.heap_setCell _ _ _ _ (by simpa using h), Below.heap_setCell _ _ _ _ (by simpa using h), Below.heap_setCell _ _ _ _ (by simpa using h), Below.heap_setCell _ _ _ _ (by simpa using h)]
theorem stays_put9 (hw : Whole w q t' l) (ht : t ≠ t') (x0 x1 x2 x3 x4 x5 x6 x7 x8 : Value) : Stays t w (set9 w q x0 x1 x2 x3 x4 x5 x6 x7 x8) := fun b cur hb => by
  refine heap_put9 w q x0 x1 x2 x3 x4 x5 x6 x7 x8 b ?_
  rintro rfl
  rw [show w.heap[b]? = _ from hw] at hb
  simp only [Option.some.injEq, Obj.cells.injEq] at hb
  exact ht hb.2.1.symm
theorem cells9 {x0 x1 x2 x3 x4 x5 x6 x7 x8 : Value} (h : Whole w q t [x0, x1, x2, x3, x4, x5, x6, x7, x8]) : w.cell? ⟨q, 0, none⟩ = some x0 ∧ w.cell? ⟨q, 1, none⟩ = some x1 ∧ w.cell? ⟨q, 2, none⟩ = some x2 ∧ w.cell? ⟨q, 3, none⟩ = some x3 ∧ w.cell? ⟨q, 4, none⟩ = some x4 ∧ w.cell? ⟨q, 5, none⟩ = some x5 ∧ w.cell? ⟨q, 6, none⟩ = some x6 ∧ w.cell? ⟨q, 7, none⟩ = some x7 ∧ w.cell? ⟨q, 8, none⟩ = some x8 ∧ q < w.heap.size :=
  ⟨h.cell 0, h.cell 1, h.cell 2, h.cell 3, h.cell 4, h.cell 5, h.cell 6, h.cell 7, h.cell 8, h.lt⟩
theorem cells4 {x0 x1 x2 x3 : Value} (h : Whole w q t [x0, x1, x2, x3]) : w.cell? ⟨q, 0, none⟩ = some x0 ∧ w.cell? ⟨q, 1, none⟩ = some x1 ∧ w.cell? ⟨q, 2, none⟩ = some x2 ∧ w.cell? ⟨q, 3, none⟩ = some x3 ∧ q < w.heap.size :=
  ⟨h.cell 0, h.cell 1, h.cell 2, h.cell 3, h.lt⟩
theorem dfok_put9 {te tc : TypeId} {k : IntKind} {d : Df} {A : Option Addr} {c : Nat} (h : DfOk 0 te tc k w d A c) (hw : Whole w q t' l) (h1 : te ≠ t') (h2 : tc ≠ t') (x0 x1 x2 x3 x4 x5 x6 x7 x8 : Value) : DfOk 0 te tc k (set9 w q x0 x1 x2 x3 x4 x5 x6 x7 x8) d A c :=
  ⟨h.sps.keep (fun b => nob b) (stays_put9 hw h2 x0 x1 x2 x3 x4 x5 x6 x7 x8) (stays_put9 hw h1 x0 x1 x2 x3 x4 x5 x6 x7 x8), h.cap, h.none, Nat.zero_le _⟩
end
theorem ret9 {R : Ending → World → Prop} {a : Act} {w : World} {fn : Func} {s : Nat} {q t : Nat} {x0 x1 x2 x3 x4 x5 x6 x7 x8 : Value} (hr : fn.results = #[.cell s t]) (ht : t = 27 ∨ t = 34) (h4 : a.tmps.getD s undef = .pointer (some ⟨q, 0, none⟩)) (hd : a.defers = [])
    (hw : Whole w q t [x0, x1, x2, x3, x4, x5, x6, x7, x8]) (hR : R (.returned (.agg #[x0, x1, x2, x3, x4, x5, x6, x7, x8])) w) : bodyPost Tryz.prog fn R .ret a w := by
  have c0 : w.cell? ⟨q, 0, none⟩ = some x0 := hw.cell 0
  have c1 : w.cell? ⟨q, 1, none⟩ = some x1 := hw.cell 1
  have c2 : w.cell? ⟨q, 2, none⟩ = some x2 := hw.cell 2
  have c3 : w.cell? ⟨q, 3, none⟩ = some x3 := hw.cell 3
  have c4 : w.cell? ⟨q, 4, none⟩ = some x4 := hw.cell 4
  have c5 : w.cell? ⟨q, 5, none⟩ = some x5 := hw.cell 5
  have c6 : w.cell? ⟨q, 6, none⟩ = some x6 := hw.cell 6
  have c7 : w.cell? ⟨q, 7, none⟩ = some x7 := hw.cell 7
  have c8 : w.cell? ⟨q, 8, none⟩ = some x8 := hw.cell 8
  clear hw
  rw [Array.getD_eq_getD_getElem?] at h4
  rcases ht with rfl | rfl
  · exact bodyPost_ret (v := .agg #[x0, x1, x2, x3, x4, x5, x6, x7, x8]) (by simp [results, hr, h4, c0, c1, c2, c3, c4, c5, c6, c7, c8, go_sem]) hd hR
  · exact bodyPost_ret (v := .agg #[x0, x1, x2, x3, x4, x5, x6, x7, x8]) (by simp [results, hr, h4, c0, c1, c2, c3, c4, c5, c6, c7, c8, go_sem]) hd hR
theorem ret92 {R : Ending → World → Prop} {a : Act} {w : World} {fn : Func} {s u : Nat} {q t : Nat} {x0 x1 x2 x3 x4 x5 x6 x7 x8 v : Value} (hr : fn.results = #[.cell s t, .tmp u]) (ht : t = 27 ∨ t = 34) (h4 : a.tmps.getD s undef = .pointer (some ⟨q, 0, none⟩)) (h5 : a.tmps.getD u undef = v) (hd : a.defers = [])
    (hw : Whole w q t [x0, x1, x2, x3, x4, x5, x6, x7, x8]) (hR : R (.returned (.tuple #[.agg #[x0, x1, x2, x3, x4, x5, x6, x7, x8], v])) w) : bodyPost Tryz.prog fn R .ret a w := by
  have c0 : w.cell? ⟨q, 0, none⟩ = some x0 := hw.cell 0
  have c1 : w.cell? ⟨q, 1, none⟩ = some x1 := hw.cell 1
  have c2 : w.cell? ⟨q, 2, none⟩ = some x2 := hw.cell 2
  have c3 : w.cell? ⟨q, 3, none⟩ = some x3 := hw.cell 3
  have c4 : w.cell? ⟨q, 4, none⟩ = some x4 := hw.cell 4
  have c5 : w.cell? ⟨q, 5, none⟩ = some x5 := hw.cell 5
  have c6 : w.cell? ⟨q, 6, none⟩ = some x6 := hw.cell 6
  have c7 : w.cell? ⟨q, 7, none⟩ = some x7 := hw.cell 7
  have c8 : w.cell? ⟨q, 8, none⟩ = some x8 := hw.cell 8
  clear hw
  rw [Array.getD_eq_getD_getElem?] at h4 h5
  rcases ht with rfl | rfl
  · exact bodyPost_ret (v := .tuple #[.agg #[x0, x1, x2, x3, x4, x5, x6, x7, x8], v]) (by simp [results, hr, h4, h5, c0, c1, c2, c3, c4, c5, c6, c7, c8, go_sem]) hd hR
  · exact bodyPost_ret (v := .tuple #[.agg #[x0, x1, x2, x3, x4, x5, x6, x7, x8], v]) (by simp [results, hr, h4, h5, c0, c1, c2, c3, c4, c5, c6, c7, c8, go_sem]) hd hR
theorem retA4 {R : Ending → World → Prop} {a : Act} {w : World} {fn : Func} {s : Nat} {q : Nat} {x0 x1 x2 x3 : Value} (hr : fn.results = #[.cell s 58]) (h4 : a.tmps.getD s undef = .pointer (some ⟨q, 0, none⟩)) (hd : a.defers = [])
    (hw : Whole w q 58 [x0, x1, x2, x3]) (hR : R (.returned (.agg #[x0, x1, x2, x3])) w) : bodyPost Tryz.prog fn R .ret a w := by
  have c0 : w.cell? ⟨q, 0, none⟩ = some x0 := hw.cell 0
  have c1 : w.cell? ⟨q, 1, none⟩ = some x1 := hw.cell 1
  have c2 : w.cell? ⟨q, 2, none⟩ = some x2 := hw.cell 2
  have c3 : w.cell? ⟨q, 3, none⟩ = some x3 := hw.cell 3
  clear hw
  rw [Array.getD_eq_getD_getElem?] at h4
  exact bodyPost_ret (v := .agg #[x0, x1, x2, x3]) (by simp [results, hr, h4, c0, c1, c2, c3, go_sem]) hd hR
/-! ### a frame that came in -/
structure FmIn (w : World) (f : Fm) (A : Option Addr) (c : Nat) : Prop where
  ok : FmOk f
  df : DfIn w f.d A c
theorem u64_wf {a : Int} (h : (Lit.int .u64 a).wf = true) : U64 a := by
  have : 0 ≤ a ∧ a ≤ 18446744073709551615 := by simpa [Lit.wf, IntKind.min, IntKind.max, IntKind.signed, IntKind.bits] using h
  exact ⟨by omega, by omega⟩
theorem structFrame : ∃ f0 f1 f2 f3 f4 : Field, Tryz.prog.underlying 27 = some (.struct #[f0, f1, f2, f3, f4]) ∧ (f0.type = 22 ∧ f1.type = 22 ∧ f2.type = 22 ∧ f3.type = 22 ∧ f4.type = 25) ∧ (f0.offset = 0 ∧ f1.offset = 1 ∧ f2.offset = 2 ∧ f3.offset = 3 ∧ f4.offset = 4) :=
  ⟨_, _, _, _, _, Tryz.underlying27, ⟨rfl, rfl, rfl, rfl, rfl⟩, ⟨rfl, rfl, rfl, rfl, rfl⟩⟩
theorem cellsU64 : Tryz.prog.cellsOf 22 = 1 := by kernel_rfl
theorem sizeFrame : Tryz.prog.cellsOf 27 = 9 := by kernel_rfl
theorem list9 {α : Type} {cs : List α} (h : cs.length = 9) : ∃ c0 c1 c2 c3 c4 c5 c6 c7 c8, cs = [c0, c1, c2, c3, c4, c5, c6, c7, c8] := by
  match cs, h with
  | [c0, c1, c2, c3, c4, c5, c6, c7, c8], _ => exact ⟨c0, c1, c2, c3, c4, c5, c6, c7, c8, rfl⟩
section
variable {H : Type} {enc : TypeId × Value → H} {w : World} {base : Nat} {spare : Nat → Bool} {held : Bool}
theorem cells_frame {fuel : Nat} {cs : List Value} {x : DataW H × List MemPlace} (hlen : cs.length = 9) (h : DataW.trod enc Tryz.prog w base spare held fuel 27 cs = some x) : ∃ (f : Fm) (A : Option Addr) (c : Nat), cs = [.int .u64 f.num, .int .u64 f.base, .int .u64 f.echo, .int .u64 f.stamp, .int .i64 f.d.rows, .int .i64 f.d.cols, .int .i64 f.d.row, .int .i64 f.d.col, .slice A f.d.ss.length c] ∧ FmIn w f A c := by
  obtain ⟨c0, c1, c2, c3, c4, c5, c6, c7, c8, rfl⟩ := list9 hlen
  obtain ⟨f0, f1, f2, f3, f4, hu, ⟨e0, e1, e2, e3, e4⟩, o0, o1, o2, o3, o4⟩ := structFrame
  obtain ⟨xs, n, _, rfl, hl, hxl, hf⟩ := DataW.trod_struct hu h
  match xs, hxl with
  | [y0, y1, y2, y3, y4], _ =>
    have g0 := hf 0 f0 rfl
    have g1 := hf 1 f1 rfl
    have g2 := hf 2 f2 rfl
    have g3 := hf 3 f3 rfl
    have g4 := hf 4 f4 rfl
    rw [e0, o0, cellsU64] at g0
    rw [e1, o1, cellsU64] at g1
    rw [e2, o2, cellsU64] at g2
    rw [e3, o3, cellsU64] at g3
    rw [e4, o4, sizeDiff] at g4
    simp only [List.drop_zero, List.drop_succ_cons, List.take_succ_cons, List.take_zero, List.getElem?_cons_zero, List.getElem?_cons_succ] at g0 g1 g2 g3 g4
    obtain ⟨n0, k0, r0, w0⟩ := DataW.trod_int Tryz.underlying22 g0
    obtain ⟨n1, k1, r1, w1⟩ := DataW.trod_int Tryz.underlying22 g1
    obtain ⟨n2, k2, r2, w2⟩ := DataW.trod_int Tryz.underlying22 g2
    obtain ⟨n3, k3, r3, w3⟩ := DataW.trod_int Tryz.underlying22 g3
    obtain ⟨d, A, c, k4, h4⟩ := cells_diff (by rfl) g4
    simp only [List.cons.injEq, and_true] at k0 k1 k2 k3 k4
    obtain ⟨k4, k5, k6, k7, k8⟩ := k4
    subst k0 k1 k2 k3 k4 k5 k6 k7 k8
    exact ⟨⟨n0, n1, n2, n3, d⟩, A, c, rfl, ⟨⟨u64_wf w0, u64_wf w1, u64_wf w2, u64_wf w3⟩, h4⟩⟩
theorem open_frame {r : Reach} {b0 : Nat} {v : Value} {x : DataW H} {p : List MemPlace} (hv : Value.okWide Tryz.prog w r b0 27 v) (h : DataW.Trod enc Tryz.prog w base spare held 27 v x p) :
    ∃ (f : Fm) (A : Option Addr) (c : Nat), v = .agg #[.int .u64 f.num, .int .u64 f.base, .int .u64 f.echo, .int .u64 f.stamp, .int .i64 f.d.rows, .int .i64 f.d.cols, .int .i64 f.d.row, .int .i64 f.d.col, .slice A f.d.ss.length c] ∧ FmIn w f A c := by
  obtain ⟨f0, f1, f2, f3, f4, hu, -⟩ := structFrame
  obtain ⟨cs, rfl, hsz⟩ := okWide_struct hu hv
  obtain ⟨fuel, hf⟩ := h
  obtain ⟨f, A, c, e, ok⟩ := cells_frame (by rw [Value.cells, Array.length_toList, hsz, sizeFrame]) hf
  refine ⟨f, A, c, ?_, ok⟩
  have : cs = [.int .u64 f.num, .int .u64 f.base, .int .u64 f.echo, .int .u64 f.stamp, .int .i64 f.d.rows, .int .i64 f.d.cols, .int .i64 f.d.row, .int .i64 f.d.col, .slice A f.d.ss.length c].toArray := by rw [← e]; simp [Value.cells]
  rw [this]
end
/-! ### a number read -/
theorem num_same {xs : List Int} {s : Nat × Int} {t : Nat} (h : s.2 = 0 → t = s.1) : nVal xs t s.2 = (numD xs s).2 ∧ nEr xs t s.2 = (numD xs s).1.2 ∧ ((numD xs s).1.2 = 0 → nu_nAt xs t s.2 = (numD xs s).1.1) := by
  obtain ⟨s1, E⟩ := s
  simp only at h ⊢
  by_cases hE : E = 0
  · rw [h hE]
    exact ⟨rfl, rfl, fun _ => rfl⟩
  · have e1 : ∀ x, nEr xs x E = E := fun x => by unfold nEr; rw [if_neg hE]
    have e2 : ∀ x, nVal xs x E = 0 := fun x => by unfold nVal; rw [if_neg hE]
    unfold numD
    simp only [e1, e2]
    exact ⟨trivial, trivial, fun q => absurd q hE⟩
theorem number_s (g : Nat) (xs : List Int) (s : Nat × Int) (w : World) (h : RdS w g xs s) (hb : Byte xs) (hl : xs.length ≤ 1000000) :
    Calls Tryz.prog 42 #[.pointer (some ⟨g, 0, none⟩)] w (GivesS g w (.int .u64 (numD xs s).2) xs (numD xs s).1) := by
  obtain ⟨t, h1, h2, h3⟩ := h
  obtain ⟨e1, e2, e3⟩ := num_same (xs := xs) h3
  refine (nu_number_any g xs t s.2 w h2 hb hl h1).mono ?_
  rintro e w' ⟨rfl, ho, hr⟩
  rw [e2] at hr
  exact ⟨by rw [e1], ho, ⟨_, nAt_le s.2 hb h1, hr, e3⟩⟩
theorem num_t {xs : List Int} {s : Nat × Int} (hb : Byte xs) (ht : s.1 ≤ xs.length) : (numD xs s).1.1 ≤ xs.length := nAt_le s.2 hb ht
end Go.Proofs.YtcbdokocnjoilaaGreatDoor
