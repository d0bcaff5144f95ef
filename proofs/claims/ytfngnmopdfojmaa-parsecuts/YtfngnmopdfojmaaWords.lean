/-
  More words, of no program: lists of bytes and of runes, rows just made, strings of bytes, what a call may leave behind.
-/
import Derived.Test.YtfngnmopdfojmaaMem
import Derived.WalkMore
namespace Go.Proofs.Ytfngnmopdfojmaa
set_option maxRecDepth 100000
open Go.ChangeShapes Go.WideShapes Go.ChangeAt Go.RowKit
set_option linter.unusedVariables false

theorem ret_bool {a b : Bool} (h : a = b) : Ending.returned (.bool a) = .returned (.bool b) := by rw [h]
theorem _root_.Go.RowKit.Below.drewN {B : Nat} {w w' : World} (h : Below B w w') (n : Nat) : Below B w (w'.drewN n) := ⟨h.os, h.tape, h.output, h.size, h.block⟩

/-! ### lists of numbers -/
def Byte (bs : List Int) : Prop := ∀ x ∈ bs, 0 ≤ x ∧ x ≤ 255
theorem Byte.drop {b : List Int} (h : Byte b) (n : Nat) : Byte (b.drop n) := fun x hx => h x (List.mem_of_mem_drop hx)
theorem Byte.take {b : List Int} (h : Byte b) (n : Nat) : Byte (b.take n) := fun x hx => h x (List.mem_of_mem_take hx)
theorem Byte.append {a b : List Int} (h : Byte a) (k : Byte b) : Byte (a ++ b) := fun x hx => by rcases List.mem_append.1 hx with q | q; exact h x q; exact k x q
/-- Numbers that a rune may be. -/
def Rn (zs : List Int) : Prop := ∀ x ∈ zs, -2147483648 ≤ x ∧ x ≤ 2147483647
theorem getD_mem (zs : List Int) (k : Nat) (hk : k < zs.length) : zs.getD k 0 ∈ zs := by
  rw [List.getD_eq_getElem?_getD, List.getElem?_eq_getElem hk]
  exact List.getElem_mem hk
theorem Rn.at {zs : List Int} (h : Rn zs) (k : Nat) (hk : k < zs.length) : -2147483648 ≤ zs.getD k 0 ∧ zs.getD k 0 ≤ 2147483647 := h _ (getD_mem zs k hk)
theorem getD_byte (zs : List Int) (h : Byte zs) (k : Nat) (hk : k < zs.length) : ∃ n : Nat, zs.getD k 0 = (n : Int) ∧ n ≤ 255 := by
  have := h _ (getD_mem zs k hk)
  exact ⟨(zs.getD k 0).toNat, by omega, by omega⟩
theorem drop_at (zs : List Int) (k : Nat) (n : Int) (hk : k < zs.length) (h : zs.getD k 0 = n) : zs.drop k = n :: zs.drop (k + 1) := by
  rw [List.drop_eq_getElem_cons hk]
  rw [List.getD_eq_getElem?_getD, List.getElem?_eq_getElem hk] at h
  simp at h
  rw [h]
theorem take_snoc (zs : List Int) (k : Nat) (r : Int) (hk : k < zs.length) (hr : zs.getD k 0 = r) : zs.take (k + 1) = zs.take k ++ [r] := by
  rw [List.take_succ_eq_append_getElem hk]
  rw [List.getD_eq_getElem?_getD, List.getElem?_eq_getElem hk] at hr
  simp at hr
  rw [hr]
theorem take_next (p x : List Int) (k : Nat) (u : Int) (hp : k < p.length) (hx : k < x.length) (h : p.take k = x.take k) (h1 : p.getD k 0 = u) (h2 : x.getD k 0 = u) : p.take (k + 1) = x.take (k + 1) := by
  rw [take_snoc p k u hp h1, take_snoc x k u hx h2, h]
def lenOf : Value → Nat
  | .slice _ n _ => n
  | _ => 0
/-- 's[q:]' has an address wherever it has room. -/
theorem cut_nil_ {A : Option Addr} {c q : Nat} (h : A = none → c = 0) : (if c = q then A else A.map (·.add q)) = none → c - q = 0 := by
  intro e
  by_cases hc : c = q
  · omega
  · rw [if_neg hc] at e
    cases A with
    | none => rw [h rfl]; omega
    | some a => cases e

/-! ### rows -/
/-- The call made a row of these numbers, and left all that was there. -/
def Made (t : TypeId) (k : IntKind) (w : World) (bs : List Int) (e : Ending) (w' : World) : Prop := ∃ v, e = .returned v ∧ Own t k w.heap.size w w' v bs
/-- The call answered with this bool, and left all that was there. -/
def Said (b : Bool) (w : World) (e : Ending) (w' : World) : Prop := e = .returned (.bool b) ∧ Below w.heap.size w w'
/-- The call answered with this number, and left all that was there. -/
def Num (k : IntKind) (r : Int) (w : World) (e : Ending) (w' : World) : Prop := e = .returned (.int k r) ∧ Below w.heap.size w w'
/-- A literal, just made. -/
theorem Own.lit (w : World) (e : TypeId) (k : IntKind) (zs : List Int) (n : Nat) (hn : zs.length = n) (hl : n ≤ 1000000) :
    Own e k w.heap.size w (w.alloc (.cells (zs.map (Value.int k)).toArray e)) (.slice (some ⟨w.heap.size, 0, none⟩) n n) zs := by
  subst hn
  refine ⟨⟨by simp, .inr ⟨w.heap.size, zs.length, (zs.map (Value.int k)).toArray, rfl, Nat.le_refl _, heap_alloc_new w _, Nat.le_refl _, by unfold maxLen; omega, by simp, ?_⟩⟩, (Below.refl _ _).alloc (Nat.le_refl _) _, by simp⟩
  simp [List.take_of_length_le]
theorem Own.form2 {e : TypeId} {k : IntKind} {B : Nat} {w wr : World} {v : Value} {bs : List Int} (h : Own e k B w wr v bs) :
    ∃ A cap, v = .slice A bs.length cap ∧ Ints k wr A bs ∧ bs.length ≤ cap ∧ (A = none → cap = 0) ∧ cap ≤ maxLen := by
  rcases h.own.2 with ⟨rfl, h0⟩ | ⟨g, cap, cur, rfl, _, _, hc, hm, _, _⟩
  · have : bs = [] := List.eq_nil_of_length_eq_zero h0
    subst this
    exact ⟨none, 0, rfl, .nil, Nat.le_refl _, fun _ => rfl, Nat.zero_le _⟩
  · refine ⟨_, cap, rfl, .inr ⟨g, 0, rfl, fun i hi => ?_⟩, hc, (fun h => by cases h), hm⟩
    rw [Nat.zero_add, h.own.cellAt i (by omega)]
    simp [List.getElem?_eq_getElem hi]
theorem Ints.newF (k : IntKind) (w : World) (t : TypeId) (fz : Nat × Nat) (zs : List Int) : Ints k (w.alloc (.cells (zs.map (Value.int k)).toArray t fz)) (some ⟨w.heap.size, 0, none⟩) zs := by
  refine .inr ⟨_, _, rfl, fun i hi => ?_⟩
  rw [Nat.zero_add, cell_of_row _ w.heap.size i _ t fz (heap_alloc_new w _)]
  simp [List.getElem?_eq_getElem hi]
theorem Own.now {e : TypeId} {k : IntKind} {B : Nat} {w wr : World} {v : Value} {bs : List Int} (h : Own e k B w wr v bs) : Own e k B wr wr v bs := ⟨h.own, Below.refl _ _, h.le⟩
/-- A row keeps where its block does. -/
theorem Own.keep {e : TypeId} {k : IntKind} {B : Nat} {w wr w1 : World} {v : Value} {bs : List Int} (h : Own e k B w wr v bs) (hb : ∀ g, B ≤ g → g < wr.heap.size → w1.heap[g]? = wr.heap[g]?) (hs : wr.heap.size ≤ w1.heap.size) : Own e k B w1 w1 v bs := by
  refine ⟨⟨h.own.1, ?_⟩, Below.refl _ _, Nat.le_trans h.le hs⟩
  rcases h.own.2 with h0 | ⟨g, cap, cur, hv, hB, hh, h1⟩
  · exact .inl h0
  · exact .inr ⟨g, cap, cur, hv, hB, (hb g hB (Array.getElem?_eq_some_iff.1 hh).1).trans hh, h1⟩

/-! ### of the blocks below B, g alone has turned -/
structure Fr (B g : Nat) (w w' : World) : Prop where
  os : w'.os = w.os
  tape : w'.tape = w.tape
  output : w'.output = w.output
  size : w.heap.size ≤ w'.heap.size
  block : ∀ i, i < B → i ≠ g → w'.heap[i]? = w.heap[i]?
section
variable {B g : Nat} {w w' w'' : World}
theorem Fr.refl : Fr B g w w := ⟨rfl, rfl, rfl, Nat.le_refl _, fun _ _ _ => rfl⟩
theorem Fr.trans (h : Fr B g w w') (k : Fr B g w' w'') : Fr B g w w'' :=
  ⟨k.os.trans h.os, k.tape.trans h.tape, k.output.trans h.output, Nat.le_trans h.size k.size, fun i hi hne => (k.block i hi hne).trans (h.block i hi hne)⟩
theorem Fr.of_below (h : Below B w w') : Fr B g w w' := ⟨h.os, h.tape, h.output, h.size, fun i hi _ => h.block i hi⟩
theorem Fr.put (i : Nat) (u : Value) : Fr B g w (w.setCell ⟨g, i, none⟩ u) :=
  ⟨rfl, rfl, rfl, by simp [World.setCell], fun k _ hne => Below.heap_setCell _ _ _ _ (by intro e; exact hne (by simp [e]))⟩
theorem Fr.drewN (h : Fr B g w w') (n : Nat) : Fr B g w (w'.drewN n) := ⟨h.os, h.tape, h.output, h.size, h.block⟩
theorem Fr.less {C : Nat} (h : Fr B g w w') (hC : C ≤ B) : Fr C g w w' := ⟨h.os, h.tape, h.output, h.size, fun i hi hne => h.block i (by omega) hne⟩
/-- Where g lies above. -/
theorem Fr.below {C : Nat} (h : Fr B g w w') (hC : C ≤ B) (hg : C ≤ g) : Below C w w' := ⟨h.os, h.tape, h.output, h.size, fun i hi => h.block i (by omega) (by omega)⟩
end

/-! ### bytes as strings -/
theorem strOf_back (x : List Int) (h : Byte x) : (x.map fun b => UInt8.ofNat b.toNat).map (fun u => (u.toNat : Int)) = x := by
  induction x with
  | nil => rfl
  | cons a x ih =>
    have ha := h a (by simp)
    have := ih (fun y hy => h y (by simp [hy]))
    simp only [List.map_cons, this]
    congr 1
    simp; omega
theorem strOf_beq (x y : List Int) (hx : Byte x) (hy : Byte y) : ((strOf x).toList == (strOf y).toList) = decide (x = y) := by
  unfold strOf
  rw [ByteArray.toList_mk, ByteArray.toList_mk, Bool.eq_iff_iff, beq_iff_eq, decide_eq_true_iff]
  constructor
  · intro h
    rw [← strOf_back x hx, h, strOf_back y hy]
  · rintro rfl; rfl
theorem strOf_size (b : List Int) : (strOf b).size = b.length := by simp [strOf, ByteArray.size]
theorem strOf_get (b : List Int) (hb : Byte b) (j : Nat) : ((strOf b).get! j).toNat = (b.getD j 0).toNat := by
  by_cases h : j < b.length
  · have hs : j < (strOf b).size := by rw [strOf_size]; exact h
    have e : (strOf b).get! j = UInt8.ofNat (b[j]).toNat := by
      simp [ByteArray.get!, strOf, h]
    rw [e, List.getD_eq_getElem?_getD, List.getElem?_eq_getElem h]
    have := hb b[j] (List.getElem_mem h)
    simp; omega
  · have e : (strOf b).get! j = default := by
      simp [ByteArray.get!, strOf, h]
    rw [e, List.getD_eq_getElem?_getD, List.getElem?_eq_none (by omega)]
    rfl
theorem strOf_extract (b : List Int) (i j : Nat) : (strOf b).extract i j = strOf ((b.take j).drop i) := by
  apply ByteArray.ext
  rw [ByteArray.data_extract]
  unfold strOf
  apply Array.ext'
  simp [List.extract_eq_take_drop, List.map_take, List.map_drop, List.drop_take]
end Go.Proofs.Ytfngnmopdfojmaa
