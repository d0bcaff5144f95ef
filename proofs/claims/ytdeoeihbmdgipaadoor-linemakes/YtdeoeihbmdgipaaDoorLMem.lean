/-
  Rows of cells: read, and made by a call.
-/
import Derived.Test.YtdeoeihbmdgipaaDoorLMath
import Derived.Test.YtdeoeihbmdgipaaDoorCBase
import Derived.Laws.CopyOwn
import Derived.Laws.OwnMore
namespace Go.Proofs.YtdeoeihbmdgipaaDoor
open Go.ChangeShapes Go.WideShapes Go.ChangeAt Go.RowKit
set_option linter.unusedVariables false

/-- A line's values, one behind the other. -/
def flatC (k : IntKind) (cs : List Cel) : List Value := cs.flatMap (cellL k)
theorem flatC_len (k : IntKind) (cs : List Cel) : (flatC k cs).length = cs.length * 7 := by
  induction cs with
  | nil => rfl
  | cons c cs ih => unfold flatC at ih ⊢; rw [List.flatMap_cons, List.length_append, ih, List.length_cons]; show 7 + _ = _; omega
theorem flatC_append (k : IntKind) (a b : List Cel) : flatC k (a ++ b) = flatC k a ++ flatC k b := by unfold flatC; simp
theorem flatC_get (k : IntKind) (cs : List Cel) : ∀ (i d : Nat), d < 7 → (flatC k cs)[i * 7 + d]? = (cs[i]?).bind (fun c => (cellL k c)[d]?) := by
  induction cs with
  | nil => intro i d _; simp [flatC]
  | cons c cs ih =>
    intro i d hd
    have hl : (cellL k c).length = 7 := rfl
    unfold flatC at ih ⊢
    rw [List.flatMap_cons]
    cases i with
    | zero => rw [List.getElem?_append_left (by omega)]; simp
    | succ i =>
      rw [List.getElem?_append_right (by omega), hl, show (i + 1) * 7 + d - 7 = i * 7 + d by omega, ih i d hd]
      simp
theorem flatC_one (k : IntKind) (cs : List Cel) : ∀ u ∈ flatC k cs, u.oneCell' = true := by
  intro u hu
  unfold flatC at hu
  obtain ⟨c, _, hc⟩ := List.mem_flatMap.1 hu
  simp only [cellL, List.mem_cons, List.not_mem_nil, or_false] at hc
  rcases hc with rfl | rfl | rfl | rfl | rfl | rfl | rfl <;> rfl
theorem flatC_take (k : IntKind) (cs : List Cel) (n : Nat) : flatC k (cs.take n) = (flatC k cs).take (n * 7) := by
  induction cs generalizing n with
  | nil => simp [flatC]
  | cons c cs ih =>
    cases n with
    | zero => simp [flatC]
    | succ n =>
      have hl : (cellL k c).length = 7 := rfl
      have e := ih n
      unfold flatC at e ⊢
      rw [List.take_succ_cons, List.flatMap_cons, List.flatMap_cons, e, List.take_append, hl, show (n + 1) * 7 - 7 = n * 7 by omega, List.take_of_length_le (by omega : (cellL k c).length ≤ (n + 1) * 7)]
theorem flatC_drop (k : IntKind) (cs : List Cel) (n : Nat) : flatC k (cs.drop n) = (flatC k cs).drop (n * 7) := by
  induction cs generalizing n with
  | nil => simp [flatC]
  | cons c cs ih =>
    cases n with
    | zero => simp [flatC]
    | succ n =>
      have hl : (cellL k c).length = 7 := rfl
      have e := ih n
      unfold flatC at e ⊢
      rw [List.drop_succ_cons, List.flatMap_cons, e, List.drop_append, hl, show (n + 1) * 7 - 7 = n * 7 by omega, List.drop_eq_nil_of_le (by omega : (cellL k c).length ≤ (n + 1) * 7)]
      rfl

/-- A slice of cells: it holds cs, wherever it lies; of an empty one nothing is asked. -/
def Cels (k : IntKind) (w : World) (a : Option Addr) (cs : List Cel) : Prop :=
  cs = [] ∨ ∃ b off, a = some ⟨b, off, none⟩ ∧ ∀ j v, (flatC k cs)[j]? = some v → w.cell? ⟨b, off + j, none⟩ = some v

section
variable {k : IntKind} {w w' : World} {a : Option Addr} {cs : List Cel}
theorem Cels.nil : Cels k w a [] := .inl rfl
theorem Cels.at (h : Cels k w a cs) {i : Nat} (hi : i < cs.length) :
    ∃ b off, a = some ⟨b, off, none⟩ ∧ b < w.heap.size ∧ ∀ d v, (cellL k (cAt cs i))[d]? = some v → w.cell? ⟨b, off + i * 7 + d, none⟩ = some v := by
  rcases h with h | ⟨b, off, ha, hc⟩
  · subst h; simp at hi
  · have key : ∀ d v, (cellL k (cAt cs i))[d]? = some v → w.cell? ⟨b, off + i * 7 + d, none⟩ = some v := by
      intro d v hv
      have hd : d < 7 := (List.getElem?_eq_some_iff.1 hv).1
      rw [Nat.add_assoc]
      refine hc _ v ?_
      rw [flatC_get k cs i d hd, get_cAt cs i hi]
      exact hv
    exact ⟨b, off, ha, block_lt_of_cell (key 0 _ rfl), key⟩
theorem Cels.keep (h : Cels k w a cs) (hk : ∀ p : Addr, p.block < w.heap.size → w'.cell? p = w.cell? p) : Cels k w' a cs := by
  rcases h with h | ⟨b, off, ha, hc⟩
  · exact .inl h
  · exact .inr ⟨b, off, ha, fun j v hj => (hk _ (block_lt_of_cell (hc j v hj))).trans (hc j v hj)⟩
theorem Cels.below (h : Cels k w a cs) (hb : Below w.heap.size w w') : Cels k w' a cs := h.keep fun _ hp => hb.cell hp
theorem Cels.alloc (h : Cels k w a cs) (o : Obj) : Cels k (w.alloc o) a cs := h.keep fun p hp => World.cell?_alloc_lt w o p hp
theorem Cels.drewN (h : Cels k w a cs) (n : Nat) : Cels k (w.drewN n) a cs := h
theorem Cels.drew (h : Cels k w a cs) : Cels k w.drew a cs := h
theorem Cels.take (h : Cels k w a cs) (n : Nat) : Cels k w a (cs.take n) := by
  rcases h with h | ⟨b, off, ha, hc⟩
  · exact .inl (by simp [h])
  · refine .inr ⟨b, off, ha, fun j v hj => ?_⟩
    rw [flatC_take, List.getElem?_take] at hj
    split at hj
    · exact hc j v hj
    · cases hj
theorem Whole.cels {g : Nat} {t : TypeId} (h : Whole w g t (flatC k cs)) : Cels k w (some ⟨g, 0, none⟩) cs := by
  refine .inr ⟨g, 0, rfl, fun j v hj => ?_⟩
  rw [Nat.zero_add, h.cell j, hj]
end
end Go.Proofs.YtdeoeihbmdgipaaDoor
