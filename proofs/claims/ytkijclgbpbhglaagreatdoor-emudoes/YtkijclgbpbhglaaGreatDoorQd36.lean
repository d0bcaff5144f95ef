/-
  Contracts and plain mathematics of Laid, EOpen.
-/
import Derived.Test.YtkijclgbpbhglaaGreatDoorQd34
import Derived.Test.YtkijclgbpbhglaaGreatDoorQd18
import Derived.Test.YtkijclgbpbhglaaGreatDoorQd1
import Derived.Lib.MinMax
import Derived.Test.YtkijclgbpbhglaaGreatDoorQd2
import Derived.LaidMore
import Derived.Deep.Strs
import Derived.Stop.Joined
namespace Go.Proofs.YtkijclgbpbhglaaGreatDoor
set_option maxRecDepth 100000
set_option linter.unusedVariables false
set_option maxHeartbeats 8000000
section
open Go.ChangeShapes Go.WideShapes Go.ChangeAt Go.RowKit
def laid1 : List (String × DataW Unit) := [("prolepsis/width.spans", Rows.laid_prolepsis_width_spans)]
theorem gSpans : Tryz.prog.globalNamed "prolepsis/width.spans" = some 0 := by kernel_rfl
theorem tSpans : (Tryz.prog.globals[0]?).map (·.type) = some 220 := by kernel_rfl
theorem size219 : Tryz.prog.cellsOf 219 = 3 := by kernel_rfl
theorem sizeT21 : Tryz.prog.cellsOf 21 = 1 := by kernel_rfl
theorem sizeT3 : Tryz.prog.cellsOf 3 = 1 := by kernel_rfl
def spanData (s : Int × Int × Int) : DataW Unit := .agg [.lit (.int .i32 s.1), .lit (.int .i32 s.2.1), .lit (.int .i64 s.2.2)]
theorem laid_is : (Rows.laid_prolepsis_width_spans : DataW Unit) = .agg (spans.map spanData) := rfl
theorem flat3 (l : List (Int × Int × Int)) : ∀ (i d : Nat), d < 3 → (l.flatMap cellsOf3)[3 * i + d]? = (l[i]?).bind (fun s => (cellsOf3 s)[d]?) := by
 induction l with
 | nil => intro i d _; simp
 | cons s l ih =>
  intro i d hd
  have hl : (cellsOf3 s).length = 3 := rfl
  rw [List.flatMap_cons]
  cases i with
  | zero => rw [List.getElem?_append_left (by omega)]; simp
  | succ i =>
   rw [List.getElem?_append_right (by omega), hl, show 3 * (i + 1) + d - 3 = 3 * i + d by omega, ih i d hd]
   simp
theorem struct219 : ∃ f0 f1 f2 : Field, Tryz.prog.underlying 219 = some (.struct #[f0, f1, f2]) ∧ f0.type = 21 ∧ f1.type = 21 ∧ f2.type = 3 ∧ f0.offset = 0 ∧ f1.offset = 1 ∧ f2.offset = 2 := ⟨_, _, _, Tryz.underlying219, rfl, rfl, rfl, rfl, rfl, rfl⟩
theorem cells_of_span {W : World} {base : Nat} {sp : Nat → Bool} {held : Bool} {fuel : Nat} {cs : List Value} {enc : TypeId × Value → Unit} {s : Int × Int × Int} {q : List MemPlace}
  (h : DataW.trod enc Tryz.prog W base sp held fuel 219 cs = some (spanData s, q)) : cs = cellsOf3 s := by
 obtain ⟨f0, f1, f2, hu, e0, e1, e2, o0, o1, o2⟩ := struct219
 obtain ⟨y0, y1, y2, m, hx, hl, h0, h1, h2⟩ := Deep.trod_struct3 hu h
 rw [e0, o0, sizeT21] at h0
 rw [e1, o1, sizeT21] at h1
 rw [e2, o2, sizeT3] at h2
 rw [size219] at hl
 obtain ⟨n0, c0, r0, _⟩ := DataW.trod_int Tryz.underlying21 h0
 obtain ⟨n1, c1, r1, _⟩ := DataW.trod_int Tryz.underlying21 h1
 obtain ⟨n2, c2, r2, _⟩ := DataW.trod_int Tryz.underlying3 h2
 subst r0 r1 r2
 obtain ⟨s1, s2, s3⟩ := s
 simp [spanData] at hx
 obtain ⟨⟨rfl, rfl, rfl⟩, _⟩ := hx
 match cs, hl with
 | [a, b, c], _ =>
  simp at c0 c1 c2
  subst c0 c1 c2
  rfl
theorem of_laid {W : World} (h : laidMetH Tryz.prog laid1 W) : Spans W := by
 rw [MakeChecks.laidMetH_plain _ _ _ (by kernel_rfl)] at h
 obtain ⟨ps, ⟨g0, t0, cs0, f0, p0, q0, hg0, ht0, hv0, hd0, _, _⟩, _, _⟩ := h
 obtain rfl := Option.some.inj (gSpans.symm.trans hg0)
 obtain rfl := Option.some.inj (tSpans.symm.trans ht0)
 rw [laid_is] at hd0
 obtain ⟨xs, m, rfl, hx, hlen, hn, hel⟩ := DataW.trod_array Tryz.underlying220 hd0
 simp only [Prod.mk.injEq, DataW.agg.injEq] at hx
 intro j v hv
 have hj : j = 3 * (j / 3) + j % 3 := by omega
 have hd3 : j % 3 < 3 := by omega
 generalize j / 3 = i at hj
 generalize j % 3 = d at hj hd3
 subst hj
 unfold spanCells at hv
 rw [flat3 spans i d hd3] at hv
 cases hs : spans[i]? with
 | none => rw [hs] at hv; cases hv
 | some s =>
  rw [hs] at hv
  have hi : i < 18 := (List.getElem?_eq_some_iff.1 hs).1
  have he := hel i hi
  cases hxi : xs[i]? with
  | none => have := List.getElem?_eq_none_iff.1 hxi; omega
  | some x =>
   rw [hxi, size219] at he
   have h1 : (xs.map (·.1))[i]? = some x.1 := by rw [List.getElem?_map, hxi]; rfl
   rw [← hx.1, List.getElem?_map, hs] at h1
   have h2 : spanData s = x.1 := by simpa using h1
   obtain ⟨x1, x2⟩ := x
   simp only at h2
   subst h2
   have hc := cells_of_span he
   have hcd : (cellsOf3 s)[d]? = some v := hv
   rw [← hc, List.getElem?_take, if_pos hd3, List.getElem?_drop] at hcd
   have := World.var?_cell hg0 hv0 (i * 3 + d)
   rw [Nat.zero_add, show 3 * i + d = i * 3 + d by omega, this, ← Array.getElem?_toList]
   exact hcd
theorem door_met (os : Os) (args : Array Value) : laidMetH Tryz.prog laid1 ((World.doorLaid Tryz.prog 400 os).forCall (fun _ _ => 0) ⟨#[], args, []⟩).memory :=
 laidMetH_of_parts3 (fuel := 8) (laidMet_of_run' 8 (by kernel_rfl) (by kernel_rfl)) (by kernel_rfl) (by kernel_rfl)
end
section
open Go.ChangeShapes Go.WideShapes Go.ChangeAt Go.RowKit Go.Joins
def StepsIn (w : World) (a : Option Addr) (len : Nat) : Prop := len = 0 ∨ ∃ (b off : Nat), a = some ⟨b, off, none⟩ ∧ ∀ i, i < len → ∃ A n c zs r k, w.cell? ⟨b, off + i * 3, none⟩ = some (.slice A n c) ∧ w.cell? ⟨b, off + i * 3 + 1, none⟩ = some (.int .i64 r) ∧ w.cell? ⟨b, off + i * 3 + 2, none⟩ = some (.int .i64 k) ∧ IsRow .u8 w A n c zs
theorem structStep : ∃ f0 f1 f2 : Field, Tryz.prog.underlying 43 = some (.struct #[f0, f1, f2]) ∧ (f0.type = 34 ∧ f1.type = 3 ∧ f2.type = 3) ∧ (f0.offset = 0 ∧ f1.offset = 1 ∧ f2.offset = 2) :=
 ⟨_, _, _, Tryz.underlying43, ⟨rfl, rfl, rfl⟩, ⟨rfl, rfl, rfl⟩⟩
theorem sizeStep : Tryz.prog.cellsOf 43 = 3 := by kernel_rfl
section
variable {H : Type} {enc : TypeId × Value → H} {w : World} {base : Nat} {held : Bool}
theorem cells_step {fuel : Nat} {cs : List Value} {x : DataW H × List MemPlace} (hlen : cs.length = 3) (h : DataW.trod enc Tryz.prog w base (fun _ => true) held fuel 43 cs = some x) :
  ∃ A n c zs r k, cs = [.slice A n c, .int .i64 r, .int .i64 k] ∧ IsRow .u8 w A n c zs := by
 obtain ⟨c0, c1, c2, rfl⟩ : ∃ c0 c1 c2, cs = [c0, c1, c2] := by
  match cs, hlen with
  | [c0, c1, c2], _ => exact ⟨c0, c1, c2, rfl⟩
 obtain ⟨f0, f1, f2, hu, ⟨e0, e1, e2⟩, o0, o1, o2⟩ := structStep
 obtain ⟨xs, n, _, rfl, hl, hxl, hf⟩ := DataW.trod_struct hu h
 match xs, hxl with
 | [y0, y1, y2], _ =>
  have g0 := hf 0 f0 rfl
  have g1 := hf 1 f1 rfl
  have g2 := hf 2 f2 rfl
  rw [e0, o0, sizeBytes] at g0
  rw [e1, o1, sizeI64] at g1
  rw [e2, o2, sizeI64] at g2
  simp only [List.drop_zero, List.drop_succ_cons, List.take_succ_cons, List.take_zero, List.getElem?_cons_zero, List.getElem?_cons_succ] at g0 g1 g2
  obtain ⟨A, len, cap, zs, k0, w0⟩ := cells_bytes g0
  obtain ⟨n1, k1, r1, w1⟩ := DataW.trod_int Tryz.underlying3 g1
  obtain ⟨n2, k2, r2, w2⟩ := DataW.trod_int Tryz.underlying3 g2
  simp only [List.cons.injEq, and_true] at k1 k2
  subst k0 k1 k2
  exact ⟨A, len, cap, zs, n1, n2, rfl, w0⟩
theorem open_steps {a : Option Addr} {len cap : Nat} {x : DataW H} {p : List MemPlace} (h : DataW.Trod enc Tryz.prog w base (fun _ => true) held 22 (.slice a len cap) x p) : StepsIn w a len ∧ len ≤ cap ∧ cap ≤ maxLen ∧ (a = none → cap = 0) := by
 obtain ⟨fuel, hf⟩ := h
 rcases Deep.open_slice Tryz.underlying22 hf with ⟨hcs, _⟩ | ⟨ad, l, c, m, n, D, Pl, hcs, hb, hl, hm, hmm, _, hel⟩
 ·simp [Value.cells] at hcs
  obtain ⟨rfl, rfl, rfl⟩ := hcs
  exact ⟨.inl rfl, Nat.le_refl _, Nat.zero_le _, fun _ => rfl⟩
 ·simp [Value.cells] at hcs
  obtain ⟨rfl, rfl, rfl⟩ := hcs
  refine ⟨?_, hl, by first | exact hm | exact hb | omega, (fun h => by cases h)⟩
  have hlm : len ≤ m := by rw [hmm]; split <;> omega
  rw [sizeStep] at hel
  have each : ∀ i, i < len → ∃ A n c zs r k, IsRow .u8 w A n c zs ∧ ∀ d v, ([.slice A n c, .int .i64 r, .int .i64 k] : List Value)[d]? = some v → w.cell? ((ad.add (i * 3)).add d) = some v := by
   intro i hi
   obtain ⟨cs', h1, h2⟩ := hel i (by omega)
   obtain ⟨-, h3, h4⟩ := World.cells?_some h1
   obtain ⟨A, n, c, zs, r, k, e, ok⟩ := cells_step h3 h2
   refine ⟨A, n, c, zs, r, k, ok, fun d v hv => ?_⟩
   have hd : d < 3 := (List.getElem?_eq_some_iff.1 hv).1
   rw [h4 d hd, e]
   exact hv
  by_cases h0 : len = 0
  ·exact .inl h0
  ·obtain ⟨_, _, _, _, _, _, _, hc0⟩ := each 0 (by omega)
   have hs : ad.spot = none := by
    have := World.cell?_spot (hc0 0 _ rfl)
    simpa [Addr.add] using this
   obtain ⟨b, off, spot⟩ := ad
   simp only at hs
   subst hs
   have hadd : ∀ i j, ((⟨b, off, none⟩ : Addr).add i).add j = ⟨b, off + i + j, none⟩ := by
    intro i j
    have e1 : ∀ (o q : Nat), (⟨b, o, none⟩ : Addr).add q = ⟨b, o + q, none⟩ := fun o q => by unfold Addr.add; split <;> simp_all
    rw [e1, e1]
   refine .inr ⟨b, off, rfl, fun i hi => ?_⟩
   obtain ⟨A, n, c, zs, r, k, ok, hc⟩ := each i hi
   have h0 := hc 0 _ rfl
   have h1 := hc 1 _ rfl
   have h2 := hc 2 _ rfl
   rw [hadd] at h0 h1 h2
   exact ⟨A, n, c, zs, r, k, h0, h1, h2, ok⟩
end
end
end Go.Proofs.YtkijclgbpbhglaaGreatDoor
