/-
  Words of the walks of diff.
-/
import Derived.Test.YtoddfaoifnkhlaaGreatDoorDOf
import Derived.Test.YtoddfaoifnkhlaaGreatDoorB7
import Derived.Test.YtoddfaoifnkhlaaGreatDoorDLaw
import Derived.Test.YtoddfaoifnkhlaaGreatDoorB12
namespace Go.Proofs.YtoddfaoifnkhlaaGreatDoor
set_option maxRecDepth 100000
open Go.ChangeShapes Go.WideShapes Go.ChangeAt Go.RowKit
set_option linter.unusedVariables false

theorem ofD_each {a b : Gd} {R' C' R C : Nat} (ha : GOk a R' C') (hb : GOk b R C) : ∀ s ∈ (ofD a b R C).ss, LB s.cs ∧ s.cs.length ≤ 512 := by
  intro s hs
  have hf := ha.fit hb.r1 hb.r2 hb.c1 hb.c2
  obtain ⟨r, h1, h2⟩ := spans_mem hf hb (Nat.le_refl R) hs
  obtain ⟨x, y, -, h3, h4, h5, -⟩ := h2.ex
  have hy := hb.each r h1
  have hc := hb.c2
  refine ⟨?_, by rw [h5, List.length_drop, List.length_take]; have := hy.1; omega⟩
  rw [h5]
  intro i hi
  rw [List.length_drop, List.length_take] at hi
  rw [cAt_drop, cAt_take _ _ _ (by omega)]
  exact hy.2.2 _ (by omega)
theorem ofD_len {a b : Gd} {R' C' R C : Nat} (ha : GOk a R' C') (hb : GOk b R C) : (ofD a b R C).ss.length ≤ 512 := by
  have hf := ha.fit hb.r1 hb.r2 hb.c1 hb.c2
  have := spans_len hf hb R (Nat.le_refl R)
  have := hb.r2
  show (spansTo (fitG a R C).ls b.ls C R).length ≤ 512
  omega
theorem ofD_ok {a b : Gd} {R' C' R C : Nat} (ha : GOk a R' C') (hb : GOk b R C) : okD C (fitG a R C) (ofD a b R C).ss = true := (fold_all (ha.fit hb.r1 hb.r2 hb.c1 hb.c2) hb).1
theorem fieldS (a b c d : Value) (A : Option Addr) (n k : Nat) (w : World) : (Instr.field 33 (.agg #[a, b, c, d, .slice A n k]) 4).run Tryz.prog w = .ok (.slice A n k) w := by kernel_rfl
theorem Sps.up {C C' : Nat} {te t : TypeId} {k : IntKind} {w : World} {A : Option Addr} {ss : List Sp} (h : Sps C te t k w A ss) (hC : C ≤ C') : Sps C' te t k w A ss := by
  obtain ⟨l, h1, h2, h3⟩ := h
  refine ⟨l, h1, fun x hx => ⟨(h2 x hx).1.more hC, (h2 x hx).2⟩, ?_⟩
  rcases h3 with h3 | ⟨b, off, ha, hb, hc⟩
  · exact .inl h3
  · exact .inr ⟨b, off, ha, by rcases hb with q | q; exact .inl (by omega); exact .inr q, hc⟩
theorem heap_put5 (w : World) (q : Nat) (x0 x1 x2 x3 x4 : Value) (i : Nat) (h : i ≠ q) : (((((w.setCell ⟨q, 0, none⟩ x0).setCell ⟨q, 1, none⟩ x1).setCell ⟨q, 2, none⟩ x2).setCell ⟨q, 3, none⟩ x3).setCell ⟨q, 4, none⟩ x4).heap[i]? = w.heap[i]? := by
  rw [Below.heap_setCell _ _ _ _ (by simpa using h), Below.heap_setCell _ _ _ _ (by simpa using h), Below.heap_setCell _ _ _ _ (by simpa using h), Below.heap_setCell _ _ _ _ (by simpa using h), Below.heap_setCell _ _ _ _ (by simpa using h)]
theorem dfOk_put5 {w : World} {q : Nat} {l : List Value} {d : Df} {A : Option Addr} {c : Nat} (h : DfOk 0 47 65 .i32 w d A c) (hq : Whole w q 33 l) (x0 x1 x2 x3 x4 : Value) : DfOk 0 47 65 .i32 (((((w.setCell ⟨q, 0, none⟩ x0).setCell ⟨q, 1, none⟩ x1).setCell ⟨q, 2, none⟩ x2).setCell ⟨q, 3, none⟩ x3).setCell ⟨q, 4, none⟩ x4) d A c :=
  ⟨h.sps.keep (fun b hb => absurd hb (Nat.not_lt_zero _)) (stays_put5 hq (by decide) _ _ _ _ _) (stays_put5 hq (by decide) _ _ _ _ _), h.cap, h.none, Nat.zero_le _⟩
theorem dec_self {α : Type} [DecidableEq α] (x : α) : decide (x = x) = true := by simp
end Go.Proofs.YtoddfaoifnkhlaaGreatDoor
