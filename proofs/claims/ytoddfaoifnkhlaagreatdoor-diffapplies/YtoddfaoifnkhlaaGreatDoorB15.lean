/-
  Contracts and plain mathematics of Laid.
-/
import Derived.Test.YtoddfaoifnkhlaaGreatDoorB3
import Derived.LaidMore
import Derived.Deep.Strs
import Derived.Stop.Joined
import Derived.Test.YtoddfaoifnkhlaaGreatDoorB14
namespace Go.Proofs.YtoddfaoifnkhlaaGreatDoor
set_option maxRecDepth 100000
set_option linter.unusedVariables false
set_option maxHeartbeats 8000000
section
open Go.ChangeShapes Go.WideShapes Go.ChangeAt Go.RowKit
def laid1 : List (String × DataW Unit) := [("prolepsis/width.spans", Rows.laid_prolepsis_width_spans)]
theorem gSpans : Tryz.prog.globalNamed "prolepsis/width.spans" = some 0 := by kernel_rfl
theorem tSpans : (Tryz.prog.globals[0]?).map (·.type) = some 166 := by kernel_rfl
theorem size165 : Tryz.prog.cellsOf 165 = 3 := by kernel_rfl
theorem sizeT21 : Tryz.prog.cellsOf 21 = 1 := by kernel_rfl
theorem sizeT3 : Tryz.prog.cellsOf 3 = 1 := by kernel_rfl
def spanData (s : Int × Int × Int) : DataW Unit := .agg [.lit (.int .i32 s.1), .lit (.int .i32 s.2.1), .lit (.int .i64 s.2.2)]
theorem laid_is : (Rows.laid_prolepsis_width_spans : DataW Unit) = .agg (spans.map spanData) := rfl
theorem flat3 (l : List (Int × Int × Int)) : ∀ (i d : Nat), d < 3 → (l.flatMap cellsOf3)[3 * i + d]? = (l[i]?).bind (fun s => (cellsOf3 s)[d]?) := by
 induction l with
 | nil => intro i d _; simp
 | cons s l ih =>
  intro i d hd
  have hl : (cellsOf3 s).length = 3 := rfl
  rw [List.flatMap_cons]
  cases i with
  | zero => rw [List.getElem?_append_left (by omega)]; simp
  | succ i =>
   rw [List.getElem?_append_right (by omega), hl, show 3 * (i + 1) + d - 3 = 3 * i + d by omega, ih i d hd]
   simp
theorem struct165 : ∃ f0 f1 f2 : Field, Tryz.prog.underlying 165 = some (.struct #[f0, f1, f2]) ∧ f0.type = 21 ∧ f1.type = 21 ∧ f2.type = 3 ∧ f0.offset = 0 ∧ f1.offset = 1 ∧ f2.offset = 2 := ⟨_, _, _, Tryz.underlying165, rfl, rfl, rfl, rfl, rfl, rfl⟩
theorem cells_of_span {W : World} {base : Nat} {sp : Nat → Bool} {held : Bool} {fuel : Nat} {cs : List Value} {enc : TypeId × Value → Unit} {s : Int × Int × Int} {q : List MemPlace}
  (h : DataW.trod enc Tryz.prog W base sp held fuel 165 cs = some (spanData s, q)) : cs = cellsOf3 s := by
 obtain ⟨f0, f1, f2, hu, e0, e1, e2, o0, o1, o2⟩ := struct165
 obtain ⟨y0, y1, y2, m, hx, hl, h0, h1, h2⟩ := Deep.trod_struct3 hu h
 rw [e0, o0, sizeT21] at h0
 rw [e1, o1, sizeT21] at h1
 rw [e2, o2, sizeT3] at h2
 rw [size165] at hl
 obtain ⟨n0, c0, r0, _⟩ := DataW.trod_int Tryz.underlying21 h0
 obtain ⟨n1, c1, r1, _⟩ := DataW.trod_int Tryz.underlying21 h1
 obtain ⟨n2, c2, r2, _⟩ := DataW.trod_int Tryz.underlying3 h2
 subst r0 r1 r2
 obtain ⟨s1, s2, s3⟩ := s
 simp [spanData] at hx
 obtain ⟨⟨rfl, rfl, rfl⟩, _⟩ := hx
 match cs, hl with
 | [a, b, c], _ =>
  simp at c0 c1 c2
  subst c0 c1 c2
  rfl
theorem of_laid {W : World} (h : laidMetH Tryz.prog laid1 W) : Spans W := by
 rw [MakeChecks.laidMetH_plain _ _ _ (by kernel_rfl)] at h
 obtain ⟨ps, ⟨g0, t0, cs0, f0, p0, q0, hg0, ht0, hv0, hd0, _, _⟩, _, _⟩ := h
 obtain rfl := Option.some.inj (gSpans.symm.trans hg0)
 obtain rfl := Option.some.inj (tSpans.symm.trans ht0)
 rw [laid_is] at hd0
 obtain ⟨xs, m, rfl, hx, hlen, hn, hel⟩ := DataW.trod_array Tryz.underlying166 hd0
 simp only [Prod.mk.injEq, DataW.agg.injEq] at hx
 intro j v hv
 have hj : j = 3 * (j / 3) + j % 3 := by omega
 have hd3 : j % 3 < 3 := by omega
 generalize j / 3 = i at hj
 generalize j % 3 = d at hj hd3
 subst hj
 unfold spanCells at hv
 rw [flat3 spans i d hd3] at hv
 cases hs : spans[i]? with
 | none => rw [hs] at hv; cases hv
 | some s =>
  rw [hs] at hv
  have hi : i < 18 := (List.getElem?_eq_some_iff.1 hs).1
  have he := hel i hi
  cases hxi : xs[i]? with
  | none => have := List.getElem?_eq_none_iff.1 hxi; omega
  | some x =>
   rw [hxi, size165] at he
   have h1 : (xs.map (·.1))[i]? = some x.1 := by rw [List.getElem?_map, hxi]; rfl
   rw [← hx.1, List.getElem?_map, hs] at h1
   have h2 : spanData s = x.1 := by simpa using h1
   obtain ⟨x1, x2⟩ := x
   simp only at h2
   subst h2
   have hc := cells_of_span he
   have hcd : (cellsOf3 s)[d]? = some v := hv
   rw [← hc, List.getElem?_take, if_pos hd3, List.getElem?_drop] at hcd
   have := World.var?_cell hg0 hv0 (i * 3 + d)
   rw [Nat.zero_add, show 3 * i + d = i * 3 + d by omega, this, ← Array.getElem?_toList]
   exact hcd
theorem door_met (os : Os) (args : Array Value) : laidMetH Tryz.prog laid1 ((World.doorLaid Tryz.prog 400 os).forCall (fun _ _ => 0) ⟨#[], args, []⟩).memory :=
 laidMetH_of_parts3 (fuel := 8) (laidMet_of_run' 8 (by kernel_rfl) (by kernel_rfl)) (by kernel_rfl) (by kernel_rfl)
end
end Go.Proofs.YtoddfaoifnkhlaaGreatDoor
