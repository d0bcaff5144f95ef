/-
  Acts that came in, opened.
-/
import Derived.Test.YtiifeniijcnahaaGreatDoorGDo6
import Derived.Test.YtiifeniijcnahaaGreatDoorLnd
namespace Go.Proofs.YtiifeniijcnahaaGreatDoor
set_option maxRecDepth 100000
open Go.ChangeShapes Go.WideShapes Go.ChangeAt Go.RowKit Go.Joins
set_option linter.unusedVariables false

theorem structAct : ∃ f0 f1 f2 f3 f4 f5 f6 f7 : Field, Tryz.prog.underlying 43 = some (.struct #[f0, f1, f2, f3, f4, f5, f6, f7]) ∧ (f0.type = 3 ∧ f1.type = 3 ∧ f2.type = 3 ∧ f3.type = 3 ∧ f4.type = 40 ∧ f5.type = 21 ∧ f6.type = 38 ∧ f7.type = 41) ∧ (f0.offset = 0 ∧ f1.offset = 1 ∧ f2.offset = 2 ∧ f3.offset = 3 ∧ f4.offset = 4 ∧ f5.offset = 11 ∧ f6.offset = 12 ∧ f7.offset = 15) :=
  ⟨_, _, _, _, _, _, _, _, Tryz.underlying43, ⟨rfl, rfl, rfl, rfl, rfl, rfl, rfl, rfl⟩, ⟨rfl, rfl, rfl, rfl, rfl, rfl, rfl, rfl⟩⟩
theorem sizeAct : Tryz.prog.cellsOf 43 = 16 := by kernel_rfl
theorem sizeLine : Tryz.prog.cellsOf 41 = 1 := by kernel_rfl
theorem list16 {α : Type} {cs : List α} (h : cs.length = 16) : ∃ c0 c1 c2 c3 c4 c5 c6 c7 c8 c9 d0 d1 d2 d3 d4 d5, cs = [c0, c1, c2, c3, c4, c5, c6, c7, c8, c9, d0, d1, d2, d3, d4, d5] := by
  match cs, h with
  | [c0, c1, c2, c3, c4, c5, c6, c7, c8, c9, d0, d1, d2, d3, d4, d5], _ => exact ⟨c0, c1, c2, c3, c4, c5, c6, c7, c8, c9, d0, d1, d2, d3, d4, d5, rfl⟩
section
variable {H : Type} {enc : TypeId × Value → H} {w : World} {base : Nat} {spare : Nat → Bool} {held : Bool}
theorem cells_line {fuel : Nat} {c : Value} {x : DataW H × List MemPlace} (h : DataW.trod enc Tryz.prog w base spare held fuel 41 [c] = some x) : ∃ a len cap cs, c = .slice a len cap ∧ LineIn w a len cap cs := by
  have h0 := h
  rcases Deep.open_slice Tryz.underlying41 h with ⟨hcs, _⟩ | ⟨ad, l, cp, m, n, D, Pl, hcs, _⟩
  · obtain rfl : c = .slice none 0 0 := by simpa using hcs
    obtain ⟨cs, hI⟩ := open_line (x := x.1) (p := x.2) ⟨fuel, h0⟩
    exact ⟨none, 0, 0, cs, rfl, hI⟩
  · obtain rfl : c = .slice (some ad) l cp := by simpa using hcs
    obtain ⟨cs, hI⟩ := open_line (x := x.1) (p := x.2) ⟨fuel, h0⟩
    exact ⟨some ad, l, cp, cs, rfl, hI⟩
theorem cells_act {fuel : Nat} {cs : List Value} {x : DataW H × List MemPlace} (hlen : cs.length = 16) (h : DataW.trod enc Tryz.prog w base spare held fuel 43 cs = some x) : ∃ a : Ac, cs = actL a ∧ AcOk w a := by
  obtain ⟨c0, c1, c2, c3, c4, c5, c6, c7, c8, c9, d0, d1, d2, d3, d4, d5, rfl⟩ := list16 hlen
  obtain ⟨f0, f1, f2, f3, f4, f5, f6, f7, hu, ⟨e0, e1, e2, e3, e4, e5, e6, e7⟩, o0, o1, o2, o3, o4, o5, o6, o7⟩ := structAct
  obtain ⟨xs, n, _, rfl, hl, hxl, hf⟩ := DataW.trod_struct hu h
  match xs, hxl with
  | [y0, y1, y2, y3, y4, y5, y6, y7], _ =>
    have g0 := hf 0 f0 rfl
    have g1 := hf 1 f1 rfl
    have g2 := hf 2 f2 rfl
    have g3 := hf 3 f3 rfl
    have g4 := hf 4 f4 rfl
    have g5 := hf 5 f5 rfl
    have g6 := hf 6 f6 rfl
    have g7 := hf 7 f7 rfl
    rw [e0, o0, cellsI64] at g0
    rw [e1, o1, cellsI64] at g1
    rw [e2, o2, cellsI64] at g2
    rw [e3, o3, cellsI64] at g3
    rw [e4, o4, sizeCell] at g4
    rw [e5, o5, cellsI32] at g5
    rw [e6, o6, sizePen] at g6
    rw [e7, o7, sizeLine] at g7
    simp only [List.drop_zero, List.drop_succ_cons, List.take_succ_cons, List.take_zero, List.getElem?_cons_zero, List.getElem?_cons_succ] at g0 g1 g2 g3 g4 g5 g6 g7
    obtain ⟨n0, k0, r0, w0⟩ := DataW.trod_int Tryz.underlying3 g0
    obtain ⟨n1, k1, r1, w1⟩ := DataW.trod_int Tryz.underlying3 g1
    obtain ⟨n2, k2, r2, w2⟩ := DataW.trod_int Tryz.underlying3 g2
    obtain ⟨n3, k3, r3, w3⟩ := DataW.trod_int Tryz.underlying3 g3
    obtain ⟨xr, xm, xn, xd, xf, xg, xb, k4, w4⟩ := cells_cell g4
    obtain ⟨n5, k5, r5, w5⟩ := DataW.trod_int Tryz.underlying21 g5
    obtain ⟨pf, pg, pb, k6a, k6b, k6c, w6⟩ := cells_pen g6
    obtain ⟨Al, nl, cl, zs, k7, w7⟩ := cells_line g7
    simp only [List.cons.injEq, and_true] at k0 k1 k2 k3 k4 k5
    obtain ⟨k40, k41, k42, k43, k44, k45, k46⟩ := k4
    subst k0 k1 k2 k3 k40 k41 k42 k43 k44 k45 k46 k5 k6a k6b k6c k7
    exact ⟨⟨n0, n1, n2, n3, xr, xm, xn, xd, xf, xg, xb, n5, pf, pg, pb, Al, nl, cl, zs⟩, rfl, i64_bd w2, w4, i32_R w5, w6, w7⟩
theorem open_act {r : Reach} {b0 : Nat} {v : Value} {x : DataW H} {p : List MemPlace} (hv : Value.okWide Tryz.prog w r b0 43 v) (h : DataW.Trod enc Tryz.prog w base spare held 43 v x p) :
    ∃ a : Ac, v = .agg #[.int .i64 a.k, .int .i64 a.r, .int .i64 a.c, .int .i64 a.t, .int .i32 a.xr, .int .i32 a.xm, .int .i32 a.xn, .int .u8 (a.xd : Int), .int .u8 (a.xf : Int), .int .u8 (a.xg : Int), .int .u8 (a.xb : Int), .int .i32 a.m, .int .u8 (a.pf : Int), .int .u8 (a.pg : Int), .int .u8 (a.pb : Int), .slice a.Al a.nl a.cl] ∧ AcOk w a := by
  obtain ⟨f0, f1, f2, f3, f4, f5, f6, f7, hu, -⟩ := structAct
  obtain ⟨cs, rfl, hsz⟩ := okWide_struct hu hv
  obtain ⟨fuel, hf⟩ := h
  obtain ⟨a, e, ok⟩ := cells_act (by rw [Value.cells, Array.length_toList, hsz, sizeAct]) hf
  refine ⟨a, ?_, ok⟩
  have : cs = (actL a).toArray := by rw [← e]; simp [Value.cells]
  rw [this]
  rfl
theorem open_acts {a : Option Addr} {len cap : Nat} {x : DataW H} {p : List MemPlace} (h : DataW.Trod enc Tryz.prog w base spare held 22 (.slice a len cap) x p) : Acts w a len ∧ len ≤ cap := by
  obtain ⟨fuel, hf⟩ := h
  rcases Deep.open_slice Tryz.underlying22 hf with ⟨hcs, _⟩ | ⟨ad, l, c, m, n, D, Pl, hcs, hb, hl, hm, hmm, _, hel⟩
  · simp [Value.cells] at hcs
    obtain ⟨rfl, rfl, rfl⟩ := hcs
    exact ⟨.inl rfl, Nat.le_refl _⟩
  · simp [Value.cells] at hcs
    obtain ⟨rfl, rfl, rfl⟩ := hcs
    refine ⟨?_, hl⟩
    have hlm : len ≤ m := by rw [hmm]; split <;> omega
    rw [sizeAct] at hel
    have each : ∀ i, i < len → ∃ a : Ac, AcOk w a ∧ ∀ d v, (actL a)[d]? = some v → w.cell? ((ad.add (i * 16)).add d) = some v := by
      intro i hi
      obtain ⟨cs', h1, h2⟩ := hel i (by omega)
      obtain ⟨-, h3, h4⟩ := World.cells?_some h1
      obtain ⟨a, e, ok⟩ := cells_act h3 h2
      refine ⟨a, ok, fun d v hv => ?_⟩
      have hd : d < 16 := (List.getElem?_eq_some_iff.1 hv).1
      rw [h4 d hd, e]
      exact hv
    by_cases h0 : len = 0
    · exact .inl h0
    · obtain ⟨c0, _, hc0⟩ := each 0 (by omega)
      have hs : ad.spot = none := by
        have := World.cell?_spot (hc0 0 _ rfl)
        simpa [Addr.add] using this
      obtain ⟨b, off, spot⟩ := ad
      simp only at hs
      subst hs
      have hadd : ∀ i j, ((⟨b, off, none⟩ : Addr).add i).add j = ⟨b, off + i + j, none⟩ := by
        intro i j
        have e1 : ∀ (o q : Nat), (⟨b, o, none⟩ : Addr).add q = ⟨b, o + q, none⟩ := fun o q => by unfold Addr.add; split <;> simp_all
        rw [e1, e1]
      have each2 : ∀ i : Nat, ∃ a : Ac, i < len → AcOk w a ∧ ∀ d v, (actL a)[d]? = some v → w.cell? ⟨b, off + i * 16 + d, none⟩ = some v := by
        intro i
        by_cases hi : i < len
        · obtain ⟨a, h1, h2⟩ := each i hi
          exact ⟨a, fun _ => ⟨h1, fun d v hv => by rw [← hadd]; exact h2 d v hv⟩⟩
        · exact ⟨c0, fun q => absurd q hi⟩
      exact .inr ⟨b, off, fun i => Classical.choose (each2 i), rfl, fun i hi => ⟨(Classical.choose_spec (each2 i) hi).2, (Classical.choose_spec (each2 i) hi).1⟩⟩
end
end Go.Proofs.YtiifeniijcnahaaGreatDoor
