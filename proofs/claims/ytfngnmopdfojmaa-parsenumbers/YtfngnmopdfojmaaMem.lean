/-
  More words over memory, of no program: a block known whole; a world in which one block alone, and what is new, has turned.
-/
import Derived.Test.YtfngnmopdfojmaaKit
import Derived.Deep.AppendLies
namespace Go.Proofs.Ytfngnmopdfojmaa
set_option maxRecDepth 100000
open Go.ChangeShapes Go.WideShapes Go.ChangeAt Go.RowKit

/-- Block g is just these cells. -/
def Whole (w : World) (g : Nat) (t : TypeId) (l : List Value) : Prop := w.heap[g]? = some (.cells l.toArray t (0, 0))

section
variable {w w' : World} {g : Nat} {t : TypeId} {l : List Value}
theorem Whole.cell (h : Whole w g t l) (i : Nat) : w.cell? ⟨g, i, none⟩ = l[i]? := by
  rw [cell_of_row w g i l.toArray t (0, 0) h]; simp
theorem Whole.frozen (h : Whole w g t l) (i : Nat) : w.frozen? ⟨g, i, none⟩ = false := by
  unfold Whole at h; simp [World.frozen?, h]
theorem Whole.lt (h : Whole w g t l) : g < w.heap.size := (Array.getElem?_eq_some_iff.1 h).1
theorem Whole.new (w : World) (t : TypeId) (l : List Value) : Whole (w.alloc (.cells l.toArray t)) w.heap.size t l := heap_alloc_new w _
theorem Whole.alloc (h : Whole w g t l) (o : Obj) : Whole (w.alloc o) g t l := (Below.heap_alloc w o g h.lt).trans h
theorem Whole.drewN (h : Whole w g t l) (n : Nat) : Whole (w.drewN n) g t l := h
theorem Whole.drew (h : Whole w g t l) : Whole w.drew g t l := h
theorem Whole.put (h : Whole w g t l) (i : Nat) (u : Value) : Whole (w.setCell ⟨g, i, none⟩ u) g t (l.set i u) := by
  unfold Whole
  rw [heap_setCell_same w g i l.toArray t u h]
  simp
theorem Whole.below {B : Nat} (h : Whole w g t l) (hb : Below B w w') (hg : g < B) : Whole w' g t l := (hb.block g hg).trans h
theorem Whole.later (h : Whole w g t l) (hb : Below w.heap.size w w') : Whole w' g t l := h.below hb h.lt
theorem Whole.far {g' : Nat} (h : Whole w g t l) (hg : w.grownBy w' (some g')) (hne : g ≠ g') : Whole w' g t l := (hg.block g h.lt (by simpa using hne)).trans h
end

/-- Block g alone, and what is new, has turned. -/
def Only (g : Nat) (w w' : World) : Prop := w.grownBy w' (some g)
section
variable {g : Nat} {w w' w'' : World}
theorem Only.refl : Only g w w := ⟨rfl, rfl, rfl, Nat.le_refl _, fun _ _ _ => rfl⟩
theorem Only.trans (h : Only g w w') (k : Only g w' w'') : Only g w w'' :=
  ⟨k.os.trans h.os, k.tape.trans h.tape, k.output.trans h.output, Nat.le_trans h.size k.size, fun i hi hne => (k.block i (Nat.lt_of_lt_of_le hi h.size) hne).trans (h.block i hi hne)⟩
theorem Only.put (i : Nat) (u : Value) : Only g w (w.setCell ⟨g, i, none⟩ u) :=
  ⟨rfl, rfl, rfl, by simp [World.setCell], fun k _ hne => Below.heap_setCell _ _ _ _ (by intro e; exact hne (by simp [e]))⟩
theorem Only.of_below (h : Below w.heap.size w w') : Only g w w' := ⟨h.os, h.tape, h.output, h.size, fun i hi _ => h.block i hi⟩
theorem Only.below {B : Nat} {a : World} (h : Only g w w') (hb : Below B a w) (hB : B ≤ w.heap.size) (hg : B ≤ g) : Below B a w' := hb.grown h hB (by intro k hk; simp at hk; omega)
theorem Only.ints {k : IntKind} {A : Option Addr} {zs : List Int} {t : TypeId} {l : List Value} (h : Only g w w') (hi : Ints k w A zs) (hw : Whole w g t l) (hl : ∀ x, .int k x ∉ l) : Ints k w' A zs := by
  rcases hi with hi | ⟨b, off, ha, hc⟩
  · exact .inl hi
  · refine .inr ⟨b, off, ha, fun i hi => ?_⟩
    have hne : b ≠ g := by
      rintro rfl
      have h1 := hc i hi
      rw [hw.cell] at h1
      exact hl _ (List.mem_of_getElem? h1)
    rw [World.grownBy.cell_far h _ (block_lt_of_cell (hc i hi)) (by simpa using hne), hc i hi]
theorem Only.size (h : Only g w w') : w.heap.size ≤ w'.heap.size := World.grownBy.size h
end
end Go.Proofs.Ytfngnmopdfojmaa
