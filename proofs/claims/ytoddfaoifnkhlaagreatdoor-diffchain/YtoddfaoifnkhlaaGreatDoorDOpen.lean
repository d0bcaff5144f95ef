/-
  Differences that came in, opened.
-/
import Derived.Test.YtoddfaoifnkhlaaGreatDoorDMem
import Derived.Test.YtoddfaoifnkhlaaGreatDoorB14
namespace Go.Proofs.YtoddfaoifnkhlaaGreatDoor
set_option maxRecDepth 100000
open Go.ChangeShapes Go.WideShapes Go.ChangeAt Go.RowKit Go.Joins
set_option linter.unusedVariables false

/-- What is known of a difference that came in. -/
structure DfIn (w : World) (d : Df) (A : Option Addr) (c : Nat) : Prop where
  ok : DfOk w.heap.size 47 65 .i32 w d A c
  lb : ∀ s ∈ d.ss, LB s.cs
theorem structSpan : ∃ f0 f1 f2 : Field, Tryz.prog.underlying 47 = some (.struct #[f0, f1, f2]) ∧ (f0.type = 3 ∧ f1.type = 3 ∧ f2.type = 45) ∧ (f0.offset = 0 ∧ f1.offset = 1 ∧ f2.offset = 2) :=
  ⟨_, _, _, Tryz.underlying47, ⟨rfl, rfl, rfl⟩, ⟨rfl, rfl, rfl⟩⟩
theorem structDiff : ∃ f0 f1 f2 f3 f4 : Field, Tryz.prog.underlying 33 = some (.struct #[f0, f1, f2, f3, f4]) ∧ (f0.type = 3 ∧ f1.type = 3 ∧ f2.type = 3 ∧ f3.type = 3 ∧ f4.type = 31) ∧ (f0.offset = 0 ∧ f1.offset = 1 ∧ f2.offset = 2 ∧ f3.offset = 3 ∧ f4.offset = 4) :=
  ⟨_, _, _, _, _, Tryz.underlying33, ⟨rfl, rfl, rfl, rfl, rfl⟩, ⟨rfl, rfl, rfl, rfl, rfl⟩⟩
theorem sizeSpan11 : Tryz.prog.cellsOf 47 = 3 := by kernel_rfl
theorem sizeSpans11 : Tryz.prog.cellsOf 31 = 1 := by kernel_rfl
theorem sizeDiff : Tryz.prog.cellsOf 33 = 5 := by kernel_rfl
theorem list3 {α : Type} {cs : List α} (h : cs.length = 3) : ∃ c0 c1 c2, cs = [c0, c1, c2] := by
  match cs, h with
  | [c0, c1, c2], _ => exact ⟨c0, c1, c2, rfl⟩
theorem list5 {α : Type} {cs : List α} (h : cs.length = 5) : ∃ c0 c1 c2 c3 c4, cs = [c0, c1, c2, c3, c4] := by
  match cs, h with
  | [c0, c1, c2, c3, c4], _ => exact ⟨c0, c1, c2, c3, c4, rfl⟩
theorem LB_cut {cs : List Cel} (h : LB cs) (n : Nat) : LB (cs.take n) := by
  intro i hi
  rw [List.length_take] at hi
  have : cAt (cs.take n) i = cAt cs i := by unfold cAt; simp [show i < n by omega]
  rw [this]
  exact h i (by omega)
/-- Spans that are known one by one. -/
theorem sps_of_each {C : Nat} {te t : TypeId} {k : IntKind} {w : World} {b off n : Nat} {F : Nat → Sa} (hb : b < C) (h : ∀ i, i < n → SaOk C t k w (F i) ∧ ∀ d v, (saL (F i))[d]? = some v → w.cell? ⟨b, off + (i * 3 + d), none⟩ = some v) : Sps C te t k w (some ⟨b, off, none⟩) ((List.range n).map fun i => (F i).s) := by
  refine ⟨(List.range n).map F, by rw [List.map_map]; rfl, fun x hx => ?_, .inr ⟨b, off, rfl, .inl hb, fun j v hj => ?_⟩⟩
  · obtain ⟨i, hi, rfl⟩ := List.mem_map.1 hx
    exact (h i (List.mem_range.1 hi)).1
  · have hl : j < n * 3 := by have := (List.getElem?_eq_some_iff.1 hj).1; rwa [flatS_len, List.length_map, List.length_range] at this
    have e : j = j / 3 * 3 + j % 3 := by omega
    have hq : j / 3 < n := by omega
    have hd : j % 3 < 3 := by omega
    rw [e, flatS_get _ _ _ hd, List.getElem?_map, List.getElem?_range hq] at hj
    have := (h (j / 3) hq).2 (j % 3) v hj
    rwa [← e] at this
section
variable {H : Type} {enc : TypeId × Value → H} {w : World} {base : Nat} {spare : Nat → Bool} {held : Bool}
theorem cells_span {fuel : Nat} {cs : List Value} {x : DataW H × List MemPlace} (hlen : cs.length = 3) (h : DataW.trod enc Tryz.prog w base spare held fuel 47 cs = some x) : ∃ a : Sa, cs = saL a ∧ SaOk w.heap.size 65 .i32 w a ∧ LB a.s.cs := by
  obtain ⟨c0, c1, c2, rfl⟩ := list3 hlen
  obtain ⟨f0, f1, f2, hu, ⟨e0, e1, e2⟩, o0, o1, o2⟩ := structSpan
  obtain ⟨xs, n, _, rfl, hl, hxl, hf⟩ := DataW.trod_struct hu h
  match xs, hxl with
  | [y0, y1, y2], _ =>
    have g0 := hf 0 f0 rfl
    have g1 := hf 1 f1 rfl
    have g2 := hf 2 f2 rfl
    rw [e0, o0, cellsI64] at g0
    rw [e1, o1, cellsI64] at g1
    rw [e2, o2, sizeLine] at g2
    simp only [List.drop_zero, List.drop_succ_cons, List.take_succ_cons, List.take_zero, List.getElem?_cons_zero, List.getElem?_cons_succ] at g0 g1 g2
    obtain ⟨n0, k0, r0, w0⟩ := DataW.trod_int Tryz.underlying3 g0
    obtain ⟨n1, k1, r1, w1⟩ := DataW.trod_int Tryz.underlying3 g1
    obtain ⟨Al, nl, cl, zs, k2, w2⟩ := cells_line g2
    simp only [List.cons.injEq, and_true] at k0 k1
    subst k0 k1 k2
    obtain ⟨h1, h2, h3, h4, h5⟩ := w2
    have hz : (zs.take nl).length = nl := by rw [List.length_take]; omega
    exact ⟨⟨⟨n0, n1, zs.take nl⟩, Al, cl⟩, by unfold saL; simp only [hz], ⟨(CelsT.of_cels h1).take nl, by simp only [hz]; exact h3, h4⟩, LB_cut h5 nl⟩
theorem cells_spans {fuel : Nat} {c : Value} {x : DataW H × List MemPlace} (h : DataW.trod enc Tryz.prog w base spare held fuel 31 [c] = some x) : ∃ a cap ss, c = .slice a (ss : List Sp).length cap ∧ Sps w.heap.size 47 65 .i32 w a ss ∧ ss.length ≤ cap ∧ (a = none → cap = 0) ∧ ∀ s ∈ ss, LB s.cs := by
  rcases Deep.open_slice Tryz.underlying31 h with ⟨hcs, _⟩ | ⟨ad, len, cp, m, n, D, Pl, hcs, hb, hl, hm, hmm, _, hel⟩
  · obtain rfl : c = .slice none 0 0 := by simpa using hcs
    exact ⟨none, 0, [], rfl, .nil, Nat.le_refl _, fun _ => rfl, by simp⟩
  · obtain rfl : c = .slice (some ad) len cp := by simpa using hcs
    have hlm : len ≤ m := by rw [hmm]; split <;> omega
    rw [sizeSpan11] at hel
    have each : ∀ i, i < len → ∃ a : Sa, (SaOk w.heap.size 65 .i32 w a ∧ LB a.s.cs) ∧ ∀ d v, (saL a)[d]? = some v → w.cell? ((ad.add (i * 3)).add d) = some v := by
      intro i hi
      obtain ⟨cs', h1, h2⟩ := hel i (by omega)
      obtain ⟨-, h3, h4⟩ := World.cells?_some h1
      obtain ⟨a, e, ok⟩ := cells_span h3 h2
      refine ⟨a, ok, fun d v hv => ?_⟩
      have hd : d < 3 := (List.getElem?_eq_some_iff.1 hv).1
      rw [h4 d hd, e]
      exact hv
    by_cases h0 : len = 0
    · subst h0
      exact ⟨some ad, cp, [], rfl, .nil, hl, (fun h => by cases h), by simp⟩
    · obtain ⟨c0, _, hc0⟩ := each 0 (by omega)
      have hs : ad.spot = none := by
        have := World.cell?_spot (hc0 0 _ rfl)
        simpa [Addr.add] using this
      obtain ⟨b, off, spot⟩ := ad
      simp only at hs
      subst hs
      have hadd : ∀ i j, ((⟨b, off, none⟩ : Addr).add i).add j = ⟨b, off + (i + j), none⟩ := by
        intro i j
        have e1 : ∀ (o q : Nat), (⟨b, o, none⟩ : Addr).add q = ⟨b, o + q, none⟩ := fun o q => by unfold Addr.add; split <;> simp_all
        rw [e1, e1, Nat.add_assoc]
      have each2 : ∀ i : Nat, ∃ a : Sa, i < len → (SaOk w.heap.size 65 .i32 w a ∧ LB a.s.cs) ∧ ∀ d v, (saL a)[d]? = some v → w.cell? ⟨b, off + (i * 3 + d), none⟩ = some v := by
        intro i
        by_cases hi : i < len
        · obtain ⟨a, h1, h2⟩ := each i hi
          exact ⟨a, fun _ => ⟨h1, fun d v hv => by rw [← hadd]; exact h2 d v hv⟩⟩
        · exact ⟨c0, fun q => absurd q hi⟩
      let F : Nat → Sa := fun i => Classical.choose (each2 i)
      have hF : ∀ i, i < len → (SaOk w.heap.size 65 .i32 w (F i) ∧ LB (F i).s.cs) ∧ ∀ d v, (saL (F i))[d]? = some v → w.cell? ⟨b, off + (i * 3 + d), none⟩ = some v := fun i hi => Classical.choose_spec (each2 i) hi
      have hbl : b < w.heap.size := block_lt_of_cell ((hF 0 (by omega)).2 0 _ rfl)
      have hlen : ((List.range len).map fun i => (F i).s).length = len := by simp
      refine ⟨some ⟨b, off, none⟩, cp, (List.range len).map fun i => (F i).s, by rw [hlen], sps_of_each hbl fun i hi => ⟨(hF i hi).1.1, (hF i hi).2⟩, by rw [hlen]; exact hl, (fun h => by cases h), fun s hs => ?_⟩
      obtain ⟨i, hi, rfl⟩ := List.mem_map.1 hs
      exact (hF i (List.mem_range.1 hi)).1.2
theorem cells_diff {fuel : Nat} {cs : List Value} {x : DataW H × List MemPlace} (hlen : cs.length = 5) (h : DataW.trod enc Tryz.prog w base spare held fuel 33 cs = some x) : ∃ (d : Df) (A : Option Addr) (c : Nat), cs = [.int .i64 d.rows, .int .i64 d.cols, .int .i64 d.row, .int .i64 d.col, .slice A d.ss.length c] ∧ DfIn w d A c := by
  obtain ⟨c0, c1, c2, c3, c4, rfl⟩ := list5 hlen
  obtain ⟨f0, f1, f2, f3, f4, hu, ⟨e0, e1, e2, e3, e4⟩, o0, o1, o2, o3, o4⟩ := structDiff
  obtain ⟨xs, n, _, rfl, hl, hxl, hf⟩ := DataW.trod_struct hu h
  match xs, hxl with
  | [y0, y1, y2, y3, y4], _ =>
    have g0 := hf 0 f0 rfl
    have g1 := hf 1 f1 rfl
    have g2 := hf 2 f2 rfl
    have g3 := hf 3 f3 rfl
    have g4 := hf 4 f4 rfl
    rw [e0, o0, cellsI64] at g0
    rw [e1, o1, cellsI64] at g1
    rw [e2, o2, cellsI64] at g2
    rw [e3, o3, cellsI64] at g3
    rw [e4, o4, sizeSpans11] at g4
    simp only [List.drop_zero, List.drop_succ_cons, List.take_succ_cons, List.take_zero, List.getElem?_cons_zero, List.getElem?_cons_succ] at g0 g1 g2 g3 g4
    obtain ⟨n0, k0, r0, w0⟩ := DataW.trod_int Tryz.underlying3 g0
    obtain ⟨n1, k1, r1, w1⟩ := DataW.trod_int Tryz.underlying3 g1
    obtain ⟨n2, k2, r2, w2⟩ := DataW.trod_int Tryz.underlying3 g2
    obtain ⟨n3, k3, r3, w3⟩ := DataW.trod_int Tryz.underlying3 g3
    obtain ⟨A, c, ss, k4, h1, h2, h3, h4⟩ := cells_spans g4
    simp only [List.cons.injEq, and_true] at k0 k1 k2 k3
    subst k0 k1 k2 k3 k4
    exact ⟨⟨n0, n1, n2, n3, ss⟩, A, c, rfl, ⟨h1, h2, h3, Nat.le_refl _⟩, h4⟩
theorem open_diff {r : Reach} {b0 : Nat} {v : Value} {x : DataW H} {p : List MemPlace} (hv : Value.okWide Tryz.prog w r b0 33 v) (h : DataW.Trod enc Tryz.prog w base spare held 33 v x p) :
    ∃ (d : Df) (A : Option Addr) (c : Nat), v = .agg #[.int .i64 d.rows, .int .i64 d.cols, .int .i64 d.row, .int .i64 d.col, .slice A d.ss.length c] ∧ DfIn w d A c := by
  obtain ⟨f0, f1, f2, f3, f4, hu, -⟩ := structDiff
  obtain ⟨cs, rfl, hsz⟩ := okWide_struct hu hv
  obtain ⟨fuel, hf⟩ := h
  obtain ⟨d, A, c, e, ok⟩ := cells_diff (by rw [Value.cells, Array.length_toList, hsz, sizeDiff]) hf
  refine ⟨d, A, c, ?_, ok⟩
  have : cs = [.int .i64 d.rows, .int .i64 d.cols, .int .i64 d.row, .int .i64 d.col, .slice A d.ss.length c].toArray := by rw [← e]; simp [Value.cells]
  rw [this]
end
end Go.Proofs.YtoddfaoifnkhlaaGreatDoor
