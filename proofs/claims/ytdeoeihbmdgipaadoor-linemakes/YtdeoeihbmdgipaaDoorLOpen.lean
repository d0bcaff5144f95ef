/-
  A line that came in, opened.
-/
import Derived.Test.YtdeoeihbmdgipaaDoorLWalkM
import Derived.Test.YtdeoeihbmdgipaaDoorCOpen
import Derived.Deep.Slices
namespace Go.Proofs.YtdeoeihbmdgipaaDoor
open Go.ChangeShapes Go.WideShapes Go.ChangeAt Go.RowKit Go.Joins
set_option linter.unusedVariables false

/-- The values of a line whose cells are known one by one. -/
theorem cels_of_each {k : IntKind} {w : World} {b off n : Nat} {F : Nat → Cel} (h : ∀ i, i < n → ∀ d v, (cellL k (F i))[d]? = some v → w.cell? ⟨b, off + (i * 7 + d), none⟩ = some v) : Cels k w (some ⟨b, off, none⟩) (tab n F) := by
  refine .inr ⟨b, off, rfl, fun j v hj => ?_⟩
  have hl : j < n * 7 := by have := (List.getElem?_eq_some_iff.1 hj).1; rwa [flatC_len, tab_len] at this
  have e : j = j / 7 * 7 + j % 7 := by omega
  have hq : j / 7 < n := by omega
  have hd : j % 7 < 7 := by omega
  rw [e, flatC_get k _ _ _ hd, tab_get _ _ _ hq] at hj
  have := h (j / 7) hq (j % 7) v hj
  rwa [← e] at this
theorem list7 {α : Type} {cs : List α} (h : cs.length = 7) : ∃ c0 c1 c2 c3 c4 c5 c6, cs = [c0, c1, c2, c3, c4, c5, c6] := by
  match cs, h with
  | [c0, c1, c2, c3, c4, c5, c6], _ => exact ⟨c0, c1, c2, c3, c4, c5, c6, rfl⟩
section
variable {H : Type} {enc : TypeId × Value → H} {w : World} {base : Nat} {spare : Nat → Bool} {held : Bool}
theorem open_line {a : Option Addr} {len cap : Nat} {x : DataW H} {p : List MemPlace} (h : DataW.Trod enc Tryd.prog w base spare held 22 (.slice a len cap) x p) : ∃ cs, LineIn w a len cap cs := by
  obtain ⟨fuel, hf⟩ := h
  rcases Deep.open_slice Tryd.underlying22 hf with ⟨hcs, _⟩ | ⟨ad, l, c, m, n, D, Pl, hcs, hb, hl, hm, hmm, _, hel⟩
  · simp [Value.cells] at hcs
    obtain ⟨rfl, rfl, rfl⟩ := hcs
    exact ⟨[], .nil, Nat.le_refl _, Nat.le_refl _, fun _ => rfl, fun i hi => by cases hi⟩
  · simp [Value.cells] at hcs
    obtain ⟨rfl, rfl, rfl⟩ := hcs
    have hlm : len ≤ m := by rw [hmm]; split <;> omega
    rw [sizeCell] at hel
    have each : ∀ i, i < len → ∃ c : Cel, CelB c ∧ ∀ d v, (cellL .i32 c)[d]? = some v → w.cell? ((ad.add (i * 7)).add d) = some v := by
      intro i hi
      obtain ⟨cs', h1, h2⟩ := hel i (by omega)
      obtain ⟨-, h3, h4⟩ := World.cells?_some h1
      obtain ⟨c0, c1, c2, c3, c4, c5, c6, rfl⟩ := list7 h3
      obtain ⟨r, q, y, z, f, g, b, e, ok⟩ := cells_cell h2
      refine ⟨⟨r, q, y, z, ⟨f, g, b⟩⟩, ⟨ok.1, ok.2.1, ok.2.2.1, ok.2.2.2.1⟩, fun d v hv => ?_⟩
      have hd : d < 7 := (List.getElem?_eq_some_iff.1 hv).1
      rw [h4 d hd, e]
      exact hv
    by_cases h0 : len = 0
    · subst h0
      exact ⟨[], .nil, Nat.le_refl _, hl, (fun h => by cases h), fun i hi => by cases hi⟩
    · obtain ⟨c0, _, hc0⟩ := each 0 (by omega)
      have hs : ad.spot = none := by
        have := World.cell?_spot (hc0 0 _ rfl)
        simpa [Addr.add] using this
      obtain ⟨b, off, spot⟩ := ad
      simp only at hs
      subst hs
      have hadd : ∀ i j, ((⟨b, off, none⟩ : Addr).add i).add j = ⟨b, off + (i + j), none⟩ := by
        intro i j
        have e1 : ∀ (o q : Nat), (⟨b, o, none⟩ : Addr).add q = ⟨b, o + q, none⟩ := fun o q => by unfold Addr.add; split <;> simp_all
        rw [e1, e1, Nat.add_assoc]
      have each2 : ∀ i : Nat, ∃ c : Cel, i < len → CelB c ∧ ∀ d v, (cellL .i32 c)[d]? = some v → w.cell? ⟨b, off + (i * 7 + d), none⟩ = some v := by
        intro i
        by_cases hi : i < len
        · obtain ⟨c, h1, h2⟩ := each i hi
          exact ⟨c, fun _ => ⟨h1, fun d v hv => by rw [← hadd]; exact h2 d v hv⟩⟩
        · exact ⟨zeroC, fun q => absurd q hi⟩
      let F : Nat → Cel := fun i => Classical.choose (each2 i)
      have hF : ∀ i, i < len → CelB (F i) ∧ ∀ d v, (cellL .i32 (F i))[d]? = some v → w.cell? ⟨b, off + (i * 7 + d), none⟩ = some v := fun i hi => Classical.choose_spec (each2 i) hi
      exact ⟨tab len F, cels_of_each fun i hi => (hF i hi).2, by rw [tab_len]; exact Nat.le_refl _, hl, (fun h => by cases h), LB_tab fun i hi => (hF i hi).1⟩
end
end Go.Proofs.YtdeoeihbmdgipaaDoor
