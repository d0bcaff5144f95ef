/-
  A cell and a pen that came in, opened.
-/
import Derived.Test.YtdeoeihbmdgipaaDoorCOk
import Derived.Lib.SmallJoins
import Derived.Deep.Strs
import Derived.OpenShut
namespace Go.Proofs.YtdeoeihbmdgipaaDoor
open Go.ChangeShapes Go.WideShapes Go.ChangeAt Go.RowKit Go.Joins
set_option linter.unusedVariables false

theorem structCell : ∃ f0 f1 f2 f3 : Field, Tryd.prog.underlying 27 = some (.struct #[f0, f1, f2, f3]) ∧ f0.type = 21 ∧ f1.type = 23 ∧ f2.type = 5 ∧ f3.type = 25 ∧ f0.offset = 0 ∧ f1.offset = 1 ∧ f2.offset = 3 ∧ f3.offset = 4 := ⟨_, _, _, _, Tryd.underlying27, rfl, rfl, rfl, rfl, rfl, rfl, rfl, rfl⟩
theorem structPen : ∃ f0 f1 f2 : Field, Tryd.prog.underlying 25 = some (.struct #[f0, f1, f2]) ∧ f0.type = 5 ∧ f1.type = 5 ∧ f2.type = 5 ∧ f0.offset = 0 ∧ f1.offset = 1 ∧ f2.offset = 2 := ⟨_, _, _, Tryd.underlying25, rfl, rfl, rfl, rfl, rfl, rfl⟩
theorem sizeCell : Tryd.prog.cellsOf 27 = 7 := by kernel_rfl
theorem sizePen : Tryd.prog.cellsOf 25 = 3 := by kernel_rfl
theorem sizeM : Tryd.prog.cellsOf 23 = 2 := by kernel_rfl
theorem sizeU8 : Tryd.prog.cellsOf 5 = 1 := by kernel_rfl
theorem array7 {α : Type} {cs : Array α} (h : cs.size = 7) : ∃ c0 c1 c2 c3 c4 c5 c6, cs = #[c0, c1, c2, c3, c4, c5, c6] := by
  obtain ⟨l⟩ := cs
  match l, h with
  | [c0, c1, c2, c3, c4, c5, c6], _ => exact ⟨c0, c1, c2, c3, c4, c5, c6, rfl⟩

section
variable {H : Type} {enc : TypeId × Value → H} {w : World} {base : Nat} {spare : Nat → Bool} {held : Bool}
theorem cells_pen {fuel : Nat} {c0 c1 c2 : Value} {x : DataW H × List MemPlace} (h : DataW.trod enc Tryd.prog w base spare held fuel 25 [c0, c1, c2] = some x) :
    ∃ f g b : Nat, c0 = .int .u8 (f : Int) ∧ c1 = .int .u8 (g : Int) ∧ c2 = .int .u8 (b : Int) ∧ PenOk f g b := by
  obtain ⟨f0, f1, f2, hu, e0, e1, e2, o0, o1, o2⟩ := structPen
  obtain ⟨y0, y1, y2, n, hx, hl, h0, h1, h2⟩ := Deep.trod_struct3 hu h
  rw [e0, o0, sizeU8] at h0
  rw [e1, o1, sizeU8] at h1
  rw [e2, o2, sizeU8] at h2
  obtain ⟨n0, k0, r0, w0⟩ := DataW.trod_int Tryd.underlying5 h0
  obtain ⟨n1, k1, r1, w1⟩ := DataW.trod_int Tryd.underlying5 h1
  obtain ⟨n2, k2, r2, w2⟩ := DataW.trod_int Tryd.underlying5 h2
  simp at k0 k1 k2
  subst k0 k1 k2
  obtain ⟨a0, rfl, m0⟩ := u8_nat w0
  obtain ⟨a1, rfl, m1⟩ := u8_nat w1
  obtain ⟨a2, rfl, m2⟩ := u8_nat w2
  exact ⟨a0, a1, a2, rfl, rfl, rfl, m0, m1, m2⟩
theorem cells_marks {fuel : Nat} {c0 c1 : Value} {x : DataW H × List MemPlace} (h : DataW.trod enc Tryd.prog w base spare held fuel 23 [c0, c1] = some x) :
    ∃ m n : Int, c0 = .int .i32 m ∧ c1 = .int .i32 n ∧ R32 m ∧ R32 n := by
  obtain ⟨xs, k, rfl, hx, hl, hn, hel⟩ := DataW.trod_array Tryd.underlying23 h
  have h0 := hel 0 (by omega)
  have h1 := hel 1 (by omega)
  rw [cellsI32] at h0 h1
  match xs, hn with
  | [y0, y1], _ =>
    simp at h0 h1
    obtain ⟨n0, k0, r0, w0⟩ := DataW.trod_int Tryd.underlying21 h0
    obtain ⟨n1, k1, r1, w1⟩ := DataW.trod_int Tryd.underlying21 h1
    simp at k0 k1
    subst k0 k1
    exact ⟨n0, n1, rfl, rfl, i32_R w0, i32_R w1⟩
theorem cells_cell {fuel : Nat} {c0 c1 c2 c3 c4 c5 c6 : Value} {x : DataW H × List MemPlace} (h : DataW.trod enc Tryd.prog w base spare held fuel 27 [c0, c1, c2, c3, c4, c5, c6] = some x) :
    ∃ (r m n : Int) (d f g b : Nat), [c0, c1, c2, c3, c4, c5, c6] = [.int .i32 r, .int .i32 m, .int .i32 n, .int .u8 (d : Int), .int .u8 (f : Int), .int .u8 (g : Int), .int .u8 (b : Int)] ∧ CelOk r m n d f g b := by
  obtain ⟨f0, f1, f2, f3, hu, e0, e1, e2, e3, o0, o1, o2, o3⟩ := structCell
  obtain ⟨y0, y1, y2, y3, n, hx, hl, h0, h1, h2, h3⟩ := trod_struct4 hu h
  rw [e0, o0, cellsI32] at h0
  rw [e1, o1, sizeM] at h1
  rw [e2, o2, sizeU8] at h2
  rw [e3, o3, sizePen] at h3
  simp only [List.drop_zero, List.drop_succ_cons, List.take_succ_cons, List.take_zero] at h0 h1 h2 h3
  obtain ⟨n0, k0, r0, w0⟩ := DataW.trod_int Tryd.underlying21 h0
  obtain ⟨m, n1, rfl, rfl, w1, w2⟩ := cells_marks h1
  obtain ⟨n3, k3, r3, w3⟩ := DataW.trod_int Tryd.underlying5 h2
  obtain ⟨f, g, b, rfl, rfl, rfl, w4, w5, w6⟩ := cells_pen h3
  simp at k0 k3
  subst k0 k3
  obtain ⟨d, rfl, w7⟩ := u8_nat w3
  exact ⟨n0, m, n1, d, f, g, b, rfl, i32_R w0, w1, w2, w7, w4, w5, w6⟩
theorem open_cell {r : Reach} {b0 : Nat} {v : Value} {x : DataW H} {p : List MemPlace} (hv : Value.okWide Tryd.prog w r b0 27 v) (h : DataW.Trod enc Tryd.prog w base spare held 27 v x p) :
    ∃ (r m n : Int) (d f g b : Nat), v = .agg #[.int .i32 r, .int .i32 m, .int .i32 n, .int .u8 (d : Int), .int .u8 (f : Int), .int .u8 (g : Int), .int .u8 (b : Int)] ∧ CelOk r m n d f g b := by
  obtain ⟨f0, f1, f2, f3, hu, -⟩ := structCell
  obtain ⟨cs, rfl, hsz⟩ := okWide_struct hu hv
  obtain ⟨c0, c1, c2, c3, c4, c5, c6, rfl⟩ := array7 (hsz.trans sizeCell)
  obtain ⟨fuel, hf⟩ := h
  obtain ⟨r, m, n, d, f, g, b, e, ok⟩ := cells_cell hf
  simp only [List.cons.injEq, and_true] at e
  obtain ⟨rfl, rfl, rfl, rfl, rfl, rfl, rfl⟩ := e
  exact ⟨r, m, n, d, f, g, b, rfl, ok⟩
theorem open_pen {r : Reach} {b0 : Nat} {v : Value} {x : DataW H} {p : List MemPlace} (hv : Value.okWide Tryd.prog w r b0 25 v) (h : DataW.Trod enc Tryd.prog w base spare held 25 v x p) :
    ∃ f g b : Nat, v = .agg #[.int .u8 (f : Int), .int .u8 (g : Int), .int .u8 (b : Int)] ∧ PenOk f g b := by
  obtain ⟨f0, f1, f2, hu, -⟩ := structPen
  obtain ⟨cs, rfl, hsz⟩ := okWide_struct hu hv
  obtain ⟨c0, c1, c2, rfl⟩ := array3 (hsz.trans sizePen)
  obtain ⟨fuel, hf⟩ := h
  obtain ⟨f, g, b, rfl, rfl, rfl, ok⟩ := cells_pen hf
  exact ⟨f, g, b, rfl, ok⟩
end
end Go.Proofs.YtdeoeihbmdgipaaDoor
