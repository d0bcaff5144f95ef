/-
  Contracts and plain mathematics of Kit, Mem, Words, Row, Opens, Chain, ChainH.
-/
import Derived.WalkKit
import Derived.WalkSpells
import Derived.ProofKit
import Derived.OpenShut
import Derived.Maps.AppendAt
import Derived.Deep.Draws
import Derived.Deep.QuietTactic
import Derived.BigQuiet
import Derived.Laws.AppendOwnNone
import Derived.Laws.BytesString
import Derived.Laws.IdiomStrings
import Derived.Deep.AppendLies
import Derived.WalkMore
import Derived.Orders
import Derived.Deep.RegionHeld
namespace Go.Proofs.YtoddfaoifnkhlaaGreatDoor
set_option maxRecDepth 100000
set_option linter.unusedVariables false
set_option maxHeartbeats 8000000
section
open Go.ChangeShapes Go.WideShapes Go.ChangeAt Go.RowKit
theorem hide {p : Prop} (h : p) : Hid p := h
theorem ret_int {k : IntKind} {a b : Int} (h : a = b) : Ending.returned (.int k a) = .returned (.int k b) := by rw [h]
def Ints (k : IntKind) (w : World) (a : Option Addr) (zs : List Int) : Prop :=
 zs = [] ∨ ∃ b off, a = some ⟨b, off, none⟩ ∧ ∀ i, i < zs.length → w.cell? ⟨b, off + i, none⟩ = some (.int k (zs.getD i 0))
section
variable {k : IntKind} {w w' : World} {a : Option Addr} {zs : List Int}
theorem Ints.nil : Ints k w a [] := .inl rfl
theorem Ints.at (h : Ints k w a zs) {i : Nat} (hi : i < zs.length) :
  ∃ b off, a = some ⟨b, off, none⟩ ∧ w.cell? ⟨b, off + i, none⟩ = some (.int k (zs.getD i 0)) ∧ b < w.heap.size := by
 rcases h with h | ⟨b, off, ha, hc⟩
 ·subst h; simp at hi
 ·exact ⟨b, off, ha, hc i hi, block_lt_of_cell (hc i hi)⟩
theorem Ints.keep (h : Ints k w a zs) (hk : ∀ p : Addr, p.block < w.heap.size → w'.cell? p = w.cell? p) : Ints k w' a zs := by
 rcases h with h | ⟨b, off, ha, hc⟩
 ·exact .inl h
 ·exact .inr ⟨b, off, ha, fun i hi => (hk _ (block_lt_of_cell (hc i hi))).trans (hc i hi)⟩
theorem Ints.below (h : Ints k w a zs) (hb : Below w.heap.size w w') : Ints k w' a zs := h.keep fun _ hp => hb.cell hp
theorem Ints.alloc (h : Ints k w a zs) (o : Obj) : Ints k (w.alloc o) a zs := h.keep fun p hp => World.cell?_alloc_lt w o p hp
theorem Ints.drewN (h : Ints k w a zs) (n : Nat) : Ints k (w.drewN n) a zs := h
theorem Ints.drew (h : Ints k w a zs) : Ints k w.drew a zs := h
theorem Ints.take (h : Ints k w a zs) (n : Nat) : Ints k w a (zs.take n) := by
 rcases h with h | ⟨b, off, ha, hc⟩
 ·exact .inl (by simp [h])
 ·refine .inr ⟨b, off, ha, fun i hi => ?_⟩
  rw [List.length_take] at hi
  rw [hc i (by omega)]
  simp [show i < n by omega]
theorem Ints.drop (h : Ints k w a zs) (n : Nat) : Ints k w (a.map (·.add n)) (zs.drop n) := by
 rcases h with h | ⟨b, off, ha, hc⟩
 ·exact .inl (by simp [h])
 ·refine .inr ⟨b, off + n, ?_, fun i hi => ?_⟩
  ·subst ha; simp only [Option.map_some, Addr.add]; split <;> simp_all
  ·rw [List.length_drop] at hi
   rw [show off + n + i = off + (n + i) by omega, hc (n + i) (by omega)]
   simp [List.getElem?_drop]
theorem Ints.cut (h : Ints k w a zs) (n cap : Nat) (hc : zs.length ≤ cap) : Ints k w (if cap = n then a else a.map (·.add n)) (zs.drop n) := by
 by_cases e : cap = n
 ·rw [if_pos e]; exact .inl (List.drop_eq_nil_of_le (by omega))
 ·rw [if_neg e]; exact h.drop n
end
theorem Ints.new (k : IntKind) (w : World) (t : TypeId) (zs : List Int) : Ints k (w.alloc (.cells (zs.map (Value.int k)).toArray t)) (some ⟨w.heap.size, 0, none⟩) zs := by
 refine .inr ⟨_, _, rfl, fun i hi => ?_⟩
 rw [Nat.zero_add, World.cell?_alloc_at (w := w) _ t _ i rfl]
 simp [List.getElem?_eq_getElem hi]
structure Elem (P : Program) (S e : TypeId) (k : IntKind) (bytes : Nat) : Prop where
 under : P.underlying S = some (.slice e)
 info : (P.info? e).map (fun i => (i.zero, i.size, i.bytes)) = some (some (.int k 0), 1, bytes)
structure Own (e : TypeId) (k : IntKind) (B : Nat) (w wr : World) (v : Value) (bs : List Int) : Prop where
 own : wr.ownsRow B e 1 v bs.length (bs.map (Value.int k))
 bel : Below B w wr
 le : B ≤ wr.heap.size
theorem own_ge {w : World} {B : Nat} {e : TypeId} {s n : Nat} {v : Value} {xs : List Value} (h : w.ownsRow B e s v n xs) : ∀ g, v.ownBlock = some g → B ≤ g := fun g hg => (h.lt g hg).1
section
variable {e : TypeId} {k : IntKind} {B : Nat} {w wr : World} {v : Value} {bs : List Int}
theorem Own.start (hB : B ≤ w.heap.size) : Own e k B w w (.slice none 0 0) [] := ⟨World.ownsRow_nil _ _ _ _, Below.refl _ _, hB⟩
theorem Own.empty (w : World) (e : TypeId) (k : IntKind) : Own e k w.heap.size w (w.alloc (.cells #[] e)) (.slice (some ⟨w.heap.size, 0, none⟩) 0 0) [] :=
 ⟨⟨by simp, .inr ⟨w.heap.size, 0, #[], rfl, Nat.le_refl _, heap_alloc_new w _, Nat.le_refl _, Nat.zero_le _, rfl, rfl⟩⟩, (Below.refl _ _).alloc (Nat.le_refl _) _, by simp⟩
theorem Own.form (h : Own e k B w wr v bs) : ∃ A cap, v = .slice A bs.length cap ∧ Ints k wr A bs ∧ bs.length ≤ cap ∧ (A = none → cap = 0) := by
 rcases h.own.2 with ⟨rfl, h0⟩ | ⟨g, cap, cur, rfl, _, _, hc, _, _, _⟩
 ·have : bs = [] := List.eq_nil_of_length_eq_zero h0
  subst this
  exact ⟨none, 0, rfl, .nil, Nat.le_refl _, fun _ => rfl⟩
 ·refine ⟨_, cap, rfl, .inr ⟨g, 0, rfl, fun i hi => ?_⟩, hc, fun h => by cases h⟩
  rw [Nat.zero_add, h.own.cellAt i (by omega)]
  simp [List.getElem?_eq_getElem hi]
theorem Own.later {w1 : World} (h : Own e k B w wr v bs) (hb : Below wr.heap.size wr w1) : Own e k B w w1 v bs := by
 refine ⟨⟨h.own.1, ?_⟩, h.bel.trans (hb.mono h.le), Nat.le_trans h.le hb.size⟩
 rcases h.own.2 with h0 | ⟨g, cap, cur, hv, hB, hh, h1⟩
 ·exact .inl h0
 ·refine .inr ⟨g, cap, cur, hv, hB, ?_, h1⟩
  rw [hb.block g (Array.getElem?_eq_some_iff.1 hh).1, hh]
theorem Own.alloc (h : Own e k B w wr v bs) (o : Obj) : Own e k B w (wr.alloc o) v bs := ⟨h.own.alloc o, h.bel.alloc h.le o, by have := h.le; simp; omega⟩
theorem Own.grown {w1 : World} {v' : Value} {ns : List Int} (h : Own e k B w wr v bs) (h1 : w1.ownsRow B e 1 v' (bs.length + ns.length) (bs.map (Value.int k) ++ ns.map (Value.int k)))
  (hg : wr.grownBy w1 v.ownBlock) : Own e k B w w1 v' (bs ++ ns) :=
 ⟨by simpa using h1, h.bel.grown hg h.le (own_ge h.own), Nat.le_trans h.le hg.size⟩
end
theorem oneCells (k : IntKind) (ns : List Int) : ∀ u ∈ ns.map (Value.int k), u.oneCell' = true := by
 intro u hu
 obtain ⟨x, _, rfl⟩ := List.mem_map.1 hu
 rfl
theorem wpList_want {P : Program} {ops : Array Oper} {rest : List Oper} {o : Oper} {a : Act} {w : World} {Q : Exit → Act → World → Prop} (hw : Region.wanted o (yielded ops a.tmps) = true)
  (h : ∀ K : Act → World → Prop, (∀ a w, wpList P ops Q rest a w → K a w) → o.wp P a w K Q) : wpList P ops Q (o :: rest) a w :=
 wpList_step fun K hK => by rw [if_pos hw]; exact h K hK
theorem wpList_val {P : Program} {ops : Array Oper} {rest : List Oper} {o : Oper} {a : Act} {w : World} {Q : Exit → Act → World → Prop} {v : Value} (hw : Region.wanted o (yielded ops a.tmps) = true)
  (hrun : (execOp a.eval o).run P w = .ok (.value v) w) (h : wpList P ops Q rest (a.put o.dst v) w) : wpList P ops Q (o :: rest) a w :=
 wpList_want hw fun K hK => by
  unfold Oper.wp
  rw [hrun]
  exact hK _ _ h
theorem exec_binop {P : Program} {w : World} {ρ : Operand → Value} {o : Oper} {op : BinOp} {t u : TypeId} {x y : Operand} {v1 v2 v : Value} (ho : o.op = .binOp op t x y u) (hop : eqGuard op t x y v1 v2 = pure ())
  (h1 : ρ x = v1) (h2 : ρ y = v2) (h : (binOp op t v1 v2).run P w = .ok v w) : (execOp ρ o).run P w = .ok (.value v) w := by
 simp only [execOp, ho, h1, h2, hop, Sem.run_bind, Sem.run_pure, h, Result.andThen]
theorem run_rem_nat {P : Program} (w : World) (t : TypeId) (k : IntKind) (C : Int) (L R : Nat) (hL : 0 < L) (h : C.tmod (L : Int) = (R : Int)) :
  (binOp .rem t (.int k C) (.int k L)).run P w = .ok (.int k R) w := by
 have : ¬ (L : Int) = 0 := by omega
 simp only [binOp_rem, Op.intDiv, this, if_false, h]
 rfl
theorem wpList_push {P : Program} {S e : TypeId} {k : IntKind} {bytes : Nat} (E : Elem P S e k bytes) {ops : Array Oper} {rest : List Oper} {o : Oper} {a : Act} {Q : Exit → Act → World → Prop} {B : Nat} {w wr : World} {v : Value} {bs : List Int} {x : Int}
  (hgd : Region.wanted o (yielded ops a.tmps) = true) (s y : Operand) (ho : o.op = .call { callee := .builtin .append, args := #[s, y], argTypes := #[S, S] })
  (hs : a.eval s = v) (hy : a.eval y = .slice (some ⟨wr.heap.size, 0, none⟩) 1 1) (hown : Own e k B w wr v bs) (hlen : bs.length ≤ 1000000) (hby : bytes ≤ 1000)
  (h : ∀ v' w1, Own e k B w w1 v' (bs ++ [x]) → wpList P ops Q rest (a.put o.dst v') w1) : wpList P ops Q (o :: rest) a (wr.alloc (.cells #[.int k x] e)) := by
 obtain ⟨i0, hi, hz0, hz1, hz2⟩ := info_parts E.info
 have hb : (bs.length + 1) * bytes ≤ 1000001 * 1000 := Nat.mul_le_mul (by omega) hby
 refine wpList_want hgd fun K hK => ?_
 refine wp_append_own _ s y S ho B e i0 (.int k 0) 1 bytes E.under hi hz0 hz1 hz2 rfl (by decide) v bs.length _ hs (hown.own.alloc _) ⟨wr.heap.size, 0, none⟩ 1 1 [.int k x] hy rfl (cell_one_new _ _ _) (oneCells k [x])
  (by unfold maxLen; omega) (by omega) (by have := hown.le; simp; omega) ?_
 intro v' w1 h1 hg _
 exact hK _ _ (h v' w1 ((hown.alloc _).grown (ns := [x]) h1 hg))
theorem wpList_cat {P : Program} {S e : TypeId} {k : IntKind} {bytes : Nat} (E : Elem P S e k bytes) {ops : Array Oper} {rest : List Oper} {o : Oper} {a : Act} {Q : Exit → Act → World → Prop} {B : Nat} {w wr : World} {v : Value} {bs ns : List Int} {A : Option Addr} {n c : Nat}
  (hgd : Region.wanted o (yielded ops a.tmps) = true) (s y : Operand) (ho : o.op = .call { callee := .builtin .append, args := #[s, y], argTypes := #[S, S] })
  (hs : a.eval s = v) (hy : a.eval y = .slice A n c) (hown : Own e k B w wr v bs) (hns : Ints k wr A ns) (hn : ns.length = n) (hc : A = none → c = 0) (hlen : bs.length + n ≤ 1000000) (hby : bytes ≤ 1000)
  (h : ∀ v' w1, Own e k B w w1 v' (bs ++ ns) → wpList P ops Q rest (a.put o.dst v') w1) : wpList P ops Q (o :: rest) a wr := by
 subst hn
 obtain ⟨i0, hi, hz0, hz1, hz2⟩ := info_parts E.info
 have hb : (bs.length + ns.length) * bytes ≤ 1000000 * 1000 := Nat.mul_le_mul hlen hby
 refine wpList_want hgd fun K hK => ?_
 cases A with
 | none =>
  have hn : ns = [] := by
   rcases hns with h | ⟨_, _, h, _⟩
   ·exact h
   ·cases h
  subst hn
  obtain rfl : c = 0 := hc rfl
  have hrun := run_append_owned_none (P := P) (w := wr) B S o.type e i0 1 E.under hi v bs.length _ hown.own
  unfold Oper.wp
  simp [execOp, ho, resolve, invoke, builtin, hs, hy, hrun, Result.andThen]
  exact hK _ _ (h v wr (by simpa using hown))
 | some ad =>
  refine wp_append_own _ s y S ho B e i0 (.int k 0) 1 bytes E.under hi hz0 hz1 hz2 rfl (by decide) v bs.length _ hs hown.own ad ns.length c (ns.map (Value.int k)) hy (by simp) ?_ (oneCells k ns)
   (by unfold maxLen; omega) (by omega) hown.le ?_
  ·intro j u hu
   have hj : j < ns.length := by have := (List.getElem?_eq_some_iff.1 hu).1; simpa using this
   obtain ⟨b, off, e1, hcell, _⟩ := hns.at hj
   cases e1
   have : (⟨b, off, none⟩ : Addr).add j = ⟨b, off + j, none⟩ := by unfold Addr.add; split <;> simp_all
   rw [this, hcell]
   simp [List.getElem?_eq_getElem hj] at hu ⊢
   exact hu
  ·intro v' w1 h1 hg _
   exact hK _ _ (h v' w1 (hown.grown h1 hg))
def strOf (bs : List Int) : ByteArray := ⟨(bs.map fun b => UInt8.ofNat b.toNat).toArray⟩
theorem run_strOf {P : Program} (w : World) (S T e : TypeId) (hs : P.underlying S = some (.slice e)) (he : P.underlying e = some (.int .u8)) (hd : P.underlying T = some .string) (A : Option Addr) (c : Nat) (bs : List Int)
  (h : Ints .u8 w A bs) (hb : ∀ x ∈ bs, 0 ≤ x ∧ x ≤ 255) : (convert S T (.slice A bs.length c)).run P w = .ok (.string (strOf bs)) w := by
 cases A with
 | none =>
  have hn : bs = [] := by
   rcases h with h | ⟨_, _, h, _⟩
   ·exact h
   ·cases h
  subst hn
  rw [run_convert_bytes_string w S T e none _ c hs he hd]
  rfl
 | some ad =>
  have hl : bs.length = (bs.map fun b => UInt8.ofNat b.toNat).length := by simp
  rw [hl]
  refine run_convert_bytes_back w S T e ad c _ hs he hd ?_
  intro j hj
  have hj' : j < bs.length := by simpa using hj
  obtain ⟨b, off, e1, hcell, _⟩ := h.at hj'
  cases e1
  have : (⟨b, off, none⟩ : Addr).add j = ⟨b, off + j, none⟩ := by unfold Addr.add; split <;> simp_all
  rw [this, hcell]
  have hm : bs[j] ∈ bs := List.getElem_mem hj'
  have := hb _ hm
  simp [List.getElem?_eq_getElem hj']
  omega
theorem exq {α : Sort _} (a : α) : ∃ b, a = b := ⟨a, rfl⟩
def Whole (w : World) (g : Nat) (t : TypeId) (l : List Value) : Prop := w.heap[g]? = some (.cells l.toArray t (0, 0))
section
variable {w w' : World} {g : Nat} {t : TypeId} {l : List Value}
theorem Whole.cell (h : Whole w g t l) (i : Nat) : w.cell? ⟨g, i, none⟩ = l[i]? := by
 rw [cell_of_row w g i l.toArray t (0, 0) h]; simp
theorem Whole.frozen (h : Whole w g t l) (i : Nat) : w.frozen? ⟨g, i, none⟩ = false := by
 unfold Whole at h; simp [World.frozen?, h]
theorem Whole.lt (h : Whole w g t l) : g < w.heap.size := (Array.getElem?_eq_some_iff.1 h).1
theorem Whole.new (w : World) (t : TypeId) (l : List Value) : Whole (w.alloc (.cells l.toArray t)) w.heap.size t l := heap_alloc_new w _
theorem Whole.alloc (h : Whole w g t l) (o : Obj) : Whole (w.alloc o) g t l := (Below.heap_alloc w o g h.lt).trans h
theorem Whole.drewN (h : Whole w g t l) (n : Nat) : Whole (w.drewN n) g t l := h
theorem Whole.drew (h : Whole w g t l) : Whole w.drew g t l := h
theorem Whole.put (h : Whole w g t l) (i : Nat) (u : Value) : Whole (w.setCell ⟨g, i, none⟩ u) g t (l.set i u) := by
 unfold Whole
 rw [heap_setCell_same w g i l.toArray t u h]
 simp
theorem Whole.below {B : Nat} (h : Whole w g t l) (hb : Below B w w') (hg : g < B) : Whole w' g t l := (hb.block g hg).trans h
theorem Whole.later (h : Whole w g t l) (hb : Below w.heap.size w w') : Whole w' g t l := h.below hb h.lt
theorem Whole.far {g' : Nat} (h : Whole w g t l) (hg : w.grownBy w' (some g')) (hne : g ≠ g') : Whole w' g t l := (hg.block g h.lt (by simpa using hne)).trans h
end
def Only (g : Nat) (w w' : World) : Prop := w.grownBy w' (some g)
section
variable {g : Nat} {w w' w'' : World}
theorem Only.refl : Only g w w := ⟨rfl, rfl, rfl, Nat.le_refl _, fun _ _ _ => rfl⟩
theorem Only.trans (h : Only g w w') (k : Only g w' w'') : Only g w w'' :=
 ⟨k.os.trans h.os, k.tape.trans h.tape, k.output.trans h.output, Nat.le_trans h.size k.size, fun i hi hne => (k.block i (Nat.lt_of_lt_of_le hi h.size) hne).trans (h.block i hi hne)⟩
theorem Only.put (i : Nat) (u : Value) : Only g w (w.setCell ⟨g, i, none⟩ u) :=
 ⟨rfl, rfl, rfl, by simp [World.setCell], fun k _ hne => Below.heap_setCell _ _ _ _ (by intro e; exact hne (by simp [e]))⟩
theorem Only.of_below (h : Below w.heap.size w w') : Only g w w' := ⟨h.os, h.tape, h.output, h.size, fun i hi _ => h.block i hi⟩
theorem Only.below {B : Nat} {a : World} (h : Only g w w') (hb : Below B a w) (hB : B ≤ w.heap.size) (hg : B ≤ g) : Below B a w' := hb.grown h hB (by intro k hk; simp at hk; omega)
theorem Only.ints {k : IntKind} {A : Option Addr} {zs : List Int} {t : TypeId} {l : List Value} (h : Only g w w') (hi : Ints k w A zs) (hw : Whole w g t l) (hl : ∀ x, .int k x ∉ l) : Ints k w' A zs := by
 rcases hi with hi | ⟨b, off, ha, hc⟩
 ·exact .inl hi
 ·refine .inr ⟨b, off, ha, fun i hi => ?_⟩
  have hne : b ≠ g := by
   rintro rfl
   have h1 := hc i hi
   rw [hw.cell] at h1
   exact hl _ (List.mem_of_getElem? h1)
  rw [World.grownBy.cell_far h _ (block_lt_of_cell (hc i hi)) (by simpa using hne), hc i hi]
theorem Only.size (h : Only g w w') : w.heap.size ≤ w'.heap.size := World.grownBy.size h
end
theorem ret_bool {a b : Bool} (h : a = b) : Ending.returned (.bool a) = .returned (.bool b) := by rw [h]
theorem _root_.Go.RowKit.Below.drewN {B : Nat} {w w' : World} (h : Below B w w') (n : Nat) : Below B w (w'.drewN n) := ⟨h.os, h.tape, h.output, h.size, h.block⟩
theorem bd1 {B : Nat} {w : World} : Below B w (w.drewN 1) := (Below.refl _ _).drewN 1
def Byte (bs : List Int) : Prop := ∀ x ∈ bs, 0 ≤ x ∧ x ≤ 255
theorem Byte.drop {b : List Int} (h : Byte b) (n : Nat) : Byte (b.drop n) := fun x hx => h x (List.mem_of_mem_drop hx)
theorem Byte.take {b : List Int} (h : Byte b) (n : Nat) : Byte (b.take n) := fun x hx => h x (List.mem_of_mem_take hx)
theorem Byte.append {a b : List Int} (h : Byte a) (k : Byte b) : Byte (a ++ b) := fun x hx => by rcases List.mem_append.1 hx with q | q; exact h x q; exact k x q
def Rn (zs : List Int) : Prop := ∀ x ∈ zs, -2147483648 ≤ x ∧ x ≤ 2147483647
theorem getD_mem (zs : List Int) (k : Nat) (hk : k < zs.length) : zs.getD k 0 ∈ zs := by
 rw [List.getD_eq_getElem?_getD, List.getElem?_eq_getElem hk]
 exact List.getElem_mem hk
theorem Rn.at {zs : List Int} (h : Rn zs) (k : Nat) (hk : k < zs.length) : -2147483648 ≤ zs.getD k 0 ∧ zs.getD k 0 ≤ 2147483647 := h _ (getD_mem zs k hk)
theorem getD_byte (zs : List Int) (h : Byte zs) (k : Nat) (hk : k < zs.length) : ∃ n : Nat, zs.getD k 0 = (n : Int) ∧ n ≤ 255 := by
 have := h _ (getD_mem zs k hk)
 exact ⟨(zs.getD k 0).toNat, by omega, by omega⟩
theorem drop_at (zs : List Int) (k : Nat) (n : Int) (hk : k < zs.length) (h : zs.getD k 0 = n) : zs.drop k = n :: zs.drop (k + 1) := by
 rw [List.drop_eq_getElem_cons hk]
 rw [List.getD_eq_getElem?_getD, List.getElem?_eq_getElem hk] at h
 simp at h
 rw [h]
theorem take_snoc (zs : List Int) (k : Nat) (r : Int) (hk : k < zs.length) (hr : zs.getD k 0 = r) : zs.take (k + 1) = zs.take k ++ [r] := by
 rw [List.take_succ_eq_append_getElem hk]
 rw [List.getD_eq_getElem?_getD, List.getElem?_eq_getElem hk] at hr
 simp at hr
 rw [hr]
theorem take_next (p x : List Int) (k : Nat) (u : Int) (hp : k < p.length) (hx : k < x.length) (h : p.take k = x.take k) (h1 : p.getD k 0 = u) (h2 : x.getD k 0 = u) : p.take (k + 1) = x.take (k + 1) := by
 rw [take_snoc p k u hp h1, take_snoc x k u hx h2, h]
def lenOf : Value → Nat
 | .slice _ n _ => n
 | _ => 0
theorem cut_nil_ {A : Option Addr} {c q : Nat} (h : A = none → c = 0) : (if c = q then A else A.map (·.add q)) = none → c - q = 0 := by
 intro e
 by_cases hc : c = q
 ·omega
 ·rw [if_neg hc] at e
  cases A with
  | none => rw [h rfl]; omega
  | some a => cases e
def Made (t : TypeId) (k : IntKind) (w : World) (bs : List Int) (e : Ending) (w' : World) : Prop := ∃ v, e = .returned v ∧ Own t k w.heap.size w w' v bs
def Said (b : Bool) (w : World) (e : Ending) (w' : World) : Prop := e = .returned (.bool b) ∧ Below w.heap.size w w'
def Num (k : IntKind) (r : Int) (w : World) (e : Ending) (w' : World) : Prop := e = .returned (.int k r) ∧ Below w.heap.size w w'
theorem Own.lit (w : World) (e : TypeId) (k : IntKind) (zs : List Int) (n : Nat) (hn : zs.length = n) (hl : n ≤ 1000000) :
  Own e k w.heap.size w (w.alloc (.cells (zs.map (Value.int k)).toArray e)) (.slice (some ⟨w.heap.size, 0, none⟩) n n) zs := by
 subst hn
 refine ⟨⟨by simp, .inr ⟨w.heap.size, zs.length, (zs.map (Value.int k)).toArray, rfl, Nat.le_refl _, heap_alloc_new w _, Nat.le_refl _, by unfold maxLen; omega, by simp, ?_⟩⟩, (Below.refl _ _).alloc (Nat.le_refl _) _, by simp⟩
 simp [List.take_of_length_le]
theorem Own.form2 {e : TypeId} {k : IntKind} {B : Nat} {w wr : World} {v : Value} {bs : List Int} (h : Own e k B w wr v bs) :
  ∃ A cap, v = .slice A bs.length cap ∧ Ints k wr A bs ∧ bs.length ≤ cap ∧ (A = none → cap = 0) ∧ cap ≤ maxLen := by
 rcases h.own.2 with ⟨rfl, h0⟩ | ⟨g, cap, cur, rfl, _, _, hc, hm, _, _⟩
 ·have : bs = [] := List.eq_nil_of_length_eq_zero h0
  subst this
  exact ⟨none, 0, rfl, .nil, Nat.le_refl _, fun _ => rfl, Nat.zero_le _⟩
 ·refine ⟨_, cap, rfl, .inr ⟨g, 0, rfl, fun i hi => ?_⟩, hc, (fun h => by cases h), hm⟩
  rw [Nat.zero_add, h.own.cellAt i (by omega)]
  simp [List.getElem?_eq_getElem hi]
theorem Ints.newF (k : IntKind) (w : World) (t : TypeId) (fz : Nat × Nat) (zs : List Int) : Ints k (w.alloc (.cells (zs.map (Value.int k)).toArray t fz)) (some ⟨w.heap.size, 0, none⟩) zs := by
 refine .inr ⟨_, _, rfl, fun i hi => ?_⟩
 rw [Nat.zero_add, cell_of_row _ w.heap.size i _ t fz (heap_alloc_new w _)]
 simp [List.getElem?_eq_getElem hi]
theorem Own.now {e : TypeId} {k : IntKind} {B : Nat} {w wr : World} {v : Value} {bs : List Int} (h : Own e k B w wr v bs) : Own e k B wr wr v bs := ⟨h.own, Below.refl _ _, h.le⟩
theorem Own.keep {e : TypeId} {k : IntKind} {B : Nat} {w wr w1 : World} {v : Value} {bs : List Int} (h : Own e k B w wr v bs) (hb : ∀ g, B ≤ g → g < wr.heap.size → w1.heap[g]? = wr.heap[g]?) (hs : wr.heap.size ≤ w1.heap.size) : Own e k B w1 w1 v bs := by
 refine ⟨⟨h.own.1, ?_⟩, Below.refl _ _, Nat.le_trans h.le hs⟩
 rcases h.own.2 with h0 | ⟨g, cap, cur, hv, hB, hh, h1⟩
 ·exact .inl h0
 ·exact .inr ⟨g, cap, cur, hv, hB, (hb g hB (Array.getElem?_eq_some_iff.1 hh).1).trans hh, h1⟩
structure Fr (B g : Nat) (w w' : World) : Prop where
 os : w'.os = w.os
 tape : w'.tape = w.tape
 output : w'.output = w.output
 size : w.heap.size ≤ w'.heap.size
 block : ∀ i, i < B → i ≠ g → w'.heap[i]? = w.heap[i]?
section
variable {B g : Nat} {w w' w'' : World}
theorem Fr.refl : Fr B g w w := ⟨rfl, rfl, rfl, Nat.le_refl _, fun _ _ _ => rfl⟩
theorem Fr.trans (h : Fr B g w w') (k : Fr B g w' w'') : Fr B g w w'' :=
 ⟨k.os.trans h.os, k.tape.trans h.tape, k.output.trans h.output, Nat.le_trans h.size k.size, fun i hi hne => (k.block i hi hne).trans (h.block i hi hne)⟩
theorem Fr.of_below (h : Below B w w') : Fr B g w w' := ⟨h.os, h.tape, h.output, h.size, fun i hi _ => h.block i hi⟩
theorem Fr.put (i : Nat) (u : Value) : Fr B g w (w.setCell ⟨g, i, none⟩ u) :=
 ⟨rfl, rfl, rfl, by simp [World.setCell], fun k _ hne => Below.heap_setCell _ _ _ _ (by intro e; exact hne (by simp [e]))⟩
theorem Fr.drewN (h : Fr B g w w') (n : Nat) : Fr B g w (w'.drewN n) := ⟨h.os, h.tape, h.output, h.size, h.block⟩
theorem Fr.less {C : Nat} (h : Fr B g w w') (hC : C ≤ B) : Fr C g w w' := ⟨h.os, h.tape, h.output, h.size, fun i hi hne => h.block i (by omega) hne⟩
theorem Fr.below {C : Nat} (h : Fr B g w w') (hC : C ≤ B) (hg : C ≤ g) : Below C w w' := ⟨h.os, h.tape, h.output, h.size, fun i hi => h.block i (by omega) (by omega)⟩
end
theorem strOf_back (x : List Int) (h : Byte x) : (x.map fun b => UInt8.ofNat b.toNat).map (fun u => (u.toNat : Int)) = x := by
 induction x with
 | nil => rfl
 | cons a x ih =>
  have ha := h a (by simp)
  have := ih (fun y hy => h y (by simp [hy]))
  simp only [List.map_cons, this]
  congr 1
  simp; omega
theorem strOf_beq (x y : List Int) (hx : Byte x) (hy : Byte y) : ((strOf x).toList == (strOf y).toList) = decide (x = y) := by
 unfold strOf
 rw [ByteArray.toList_mk, ByteArray.toList_mk, Bool.eq_iff_iff, beq_iff_eq, decide_eq_true_iff]
 constructor
 ·intro h
  rw [← strOf_back x hx, h, strOf_back y hy]
 ·rintro rfl; rfl
theorem strOf_size (b : List Int) : (strOf b).size = b.length := by simp [strOf, ByteArray.size]
theorem strOf_get (b : List Int) (hb : Byte b) (j : Nat) : ((strOf b).get! j).toNat = (b.getD j 0).toNat := by
 by_cases h : j < b.length
 ·have hs : j < (strOf b).size := by rw [strOf_size]; exact h
  have e : (strOf b).get! j = UInt8.ofNat (b[j]).toNat := by
   simp [ByteArray.get!, strOf, h]
  rw [e, List.getD_eq_getElem?_getD, List.getElem?_eq_getElem h]
  have := hb b[j] (List.getElem_mem h)
  simp; omega
 ·have e : (strOf b).get! j = default := by
   simp [ByteArray.get!, strOf, h]
  rw [e, List.getD_eq_getElem?_getD, List.getElem?_eq_none (by omega)]
  rfl
theorem strOf_extract (b : List Int) (i j : Nat) : (strOf b).extract i j = strOf ((b.take j).drop i) := by
 apply ByteArray.ext
 rw [ByteArray.data_extract]
 unfold strOf
 apply Array.ext'
 simp [List.extract_eq_take_drop, List.map_take, List.map_drop, List.drop_take]
def IsRow (k : IntKind) (w : World) (a : Option Addr) (len cap : Nat) (zs : List Int) : Prop :=
 (a = none ∧ len = 0 ∧ cap = 0 ∧ zs = []) ∨
 ∃ x, a = some x ∧ len ≤ cap ∧ cap ≤ maxLen ∧ zs.length = cap ∧ (∀ i, i < zs.length → w.cell? (x.add i) = some (.int k (zs.getD i 0))) ∧ ∀ n ∈ zs, (Lit.int k n).wf = true
theorem IsRow.ints {k : IntKind} {w : World} {a : Option Addr} {len cap : Nat} {zs : List Int} (h : IsRow k w a len cap zs) : Ints k w a zs := by
 rcases h with ⟨rfl, rfl, rfl, rfl⟩ | ⟨x, rfl, hl, hm, hz, hc, hw⟩
 ·exact .nil
 ·by_cases h0 : zs = []
  ·exact .inl h0
  ·have hp : 0 < zs.length := List.length_pos_iff.2 h0
   obtain ⟨b, off, spot⟩ := x
   have hs : spot = none := by simpa [Addr.add] using World.cell?_spot (hc 0 hp)
   subst hs
   refine .inr ⟨b, off, rfl, fun i hi => ?_⟩
   have := hc i hi
   have e : (⟨b, off, none⟩ : Addr).add i = ⟨b, off + i, none⟩ := by unfold Addr.add; split <;> simp_all
   rwa [e] at this
theorem IsRow.len {k : IntKind} {w : World} {a : Option Addr} {len cap : Nat} {zs : List Int} (h : IsRow k w a len cap zs) : zs.length = cap ∧ len ≤ cap ∧ (a = none → cap = 0) ∧ cap ≤ maxLen := by
 rcases h with ⟨rfl, rfl, rfl, rfl⟩ | ⟨x, rfl, hl, hm, hz, hc, hw⟩
 ·exact ⟨rfl, Nat.le_refl _, fun _ => rfl, Nat.zero_le _⟩
 ·exact ⟨hz, hl, (fun h => by cases h), hm⟩
theorem IsRow.wf {k : IntKind} {w : World} {a : Option Addr} {len cap : Nat} {zs : List Int} (h : IsRow k w a len cap zs) : ∀ n ∈ zs, (Lit.int k n).wf = true := by
 rcases h with ⟨rfl, rfl, rfl, rfl⟩ | ⟨x, rfl, hl, hm, hz, hc, hw⟩
 ·simp
 ·exact hw
theorem u8_bd {a : Int} (h : (Lit.int .u8 a).wf = true) : 0 ≤ a ∧ a ≤ 255 := by
 simpa [Lit.wf, IntKind.min, IntKind.max, IntKind.signed, IntKind.bits] using h
theorem u8_nat {a : Int} (h : (Lit.int .u8 a).wf = true) : ∃ k : Nat, a = (k : Int) ∧ k < 256 := by
 have := u8_bd h
 exact ⟨a.toNat, by omega, by omega⟩
theorem i64_bd {a : Int} (h : (Lit.int .i64 a).wf = true) : -9223372036854775808 ≤ a ∧ a < 9223372036854775808 := by
 have : -9223372036854775808 ≤ a ∧ a ≤ 9223372036854775807 := by simpa [Lit.wf, IntKind.min, IntKind.max, IntKind.signed, IntKind.bits] using h
 omega
end
section
open Go.RowKit
def pickOps (ops : Array Oper) : List Nat → List Oper
 | [] => []
 | i :: r => match ops[i]? with
  | some o => o :: pickOps ops r
  | none => []
def wpChain (P : Program) (ops : Array Oper) (Q : Exit → Act → World → Prop) : List (Bool × List Nat) → Act → World → Prop
 | [], a, w => Q .normal a w
 | (true, l) :: r, a, w => match pickOps ops l with
  | [o] => ∃ v, Yields P ops o v a ∧ wpChain P ops Q r (a.put o.dst v) w
  | _ => False
 | (false, l) :: r, a, w => ∀ K : Act → World → Prop, (∀ a w, wpChain P ops Q r a w → K a w) → wpList P ops (Exit.then K Q) (pickOps ops l) a w
def aloneOk (ops : Array Oper) : List Nat → Array Bool → Bool
 | [], _ => true
 | i :: r, listed => (Region.ready .any ops listed == [i]) && aloneOk ops r (listed.setIfInBounds i true)
def listAll : List Nat → Array Bool → Array Bool
 | [], listed => listed
 | i :: r, listed => listAll r (listed.setIfInBounds i true)
def chainOk (ops : Array Oper) : List (Bool × List Nat) → Array Bool → Bool
 | [], listed => (Region.ready .any ops listed).isEmpty
 | (true, l) :: r, listed => match l with
  | [i] => Region.free .any ops listed i && (Region.ready .any ops listed).contains i && chainOk ops r (listed.setIfInBounds i true)
  | _ => false
 | (false, l) :: r, listed => aloneOk ops l listed && chainOk ops r (listAll l listed)
def chainLen : List (Bool × List Nat) → Nat
 | [] => 0
 | (_, l) :: r => l.length + chainLen r
section
variable {P : Program} {ops : Array Oper} {Q : Exit → Act → World → Prop}
theorem upon_list {o : Oper} {a : Act} {K M N : Act → World → Prop} (hM : ∀ a w, M a w → K a w) (r : Result Next) (h : o.upon P a M (Exit.then N Q) r) : o.upon P a K Q r := by
 cases r with
 | ok n w' =>
  cases n <;> simp only [Oper.upon] at h ⊢
  case value => exact hM _ _ h
  case skip => exact hM _ _ h
  case defer => exact hM _ _ h
  case enter =>
   refine Calls.mono h fun e w'' he => ?_
   cases e with
   | returned => exact hM _ _ he
   | panicked => exact he
   | outgrown => exact he
  case row => exact Rows.mono h fun _ _ he => hM _ _ he
 | halt x w' => cases x <;> simp only [Oper.upon] at h ⊢ <;> exact h
theorem any_of_list (N : Act → World → Prop) (fuel : Nat) : ∀ (l : List Nat) (listed : Array Bool) (a : Act) (w : World), aloneOk ops l listed = true →
  (∀ a w, N a w → wpAny P .any ops Q fuel (listAll l listed) a w) → wpList P ops (Exit.then N Q) (pickOps ops l) a w → wpAny P .any ops Q (l.length + fuel) listed a w := by
 intro l
 induction l with
 | nil => intro listed a w _ hN h; simpa [listAll] using hN a w h
 | cons i r ih =>
  intro listed a w hok hN h
  simp only [aloneOk, Bool.and_eq_true, beq_iff_eq] at hok
  obtain ⟨hr, hok⟩ := hok
  have hlen : (i :: r).length + fuel = (r.length + fuel) + 1 := by simp; omega
  rw [hlen]
  refine wpAny_all hr (by simp) fun j hj => ?_
  obtain rfl : j = i := by simpa using hj
  have hmem : j ∈ Region.ready .any ops listed := by rw [hr]; simp
  obtain ⟨_, o, ho, _⟩ := mem_ready.1 hmem
  simp only [pickOps, ho] at h
  unfold wpOp
  simp only [ho]
  unfold wpList at h
  split at h
  ·rename_i hw
   rw [if_pos hw]
   rcases h with h | ⟨h1, h2⟩
   ·exact .inl (upon_list (fun a' w' h' => ih _ a' w' hok hN h') _ h)
   ·exact .inr ⟨h1, h2⟩
  ·rename_i hw
   rw [if_neg hw]
   exact ih _ _ _ hok hN h
theorem any_of_chain (hs : Region.noSelect ops = true) (hQ : ∀ c (d : Tmp) v a w, Q (.panic c) (Act.put a (some d) v) w → Q (.panic c) a w) :
  ∀ (l : List (Bool × List Nat)) (listed : Array Bool) (a : Act) (w : World), chainOk ops l listed = true → wpChain P ops Q l a w → wpAny P .any ops Q (chainLen l) listed a w := by
 intro l
 induction l with
 | nil =>
  intro listed a w hok h
  exact wpAny_done (by simpa [chainOk] using hok) h 0
 | cons x r ih =>
  obtain ⟨b, l⟩ := x
  intro listed a w hok h
  cases b with
  | true =>
   match l, hok, h with
   | [i], hok, h =>
    simp only [chainOk, Bool.and_eq_true] at hok
    obtain ⟨⟨hf, hr⟩, hok⟩ := hok
    have hmem : i ∈ Region.ready .any ops listed := by simpa using hr
    obtain ⟨_, o, ho, _⟩ := mem_ready.1 hmem
    simp only [wpChain, pickOps, ho] at h
    obtain ⟨v, hy, h⟩ := h
    have hlen : chainLen ((true, [i]) :: r) = chainLen r + 1 := by simp [chainLen]; omega
    rw [hlen]
    refine wpAny_take ho hs hf hr (fun c a w hh => ?_) hy (ih _ _ _ hok h)
    cases hd : o.dst with
    | none => rw [hd] at hh; exact hh
    | some d => rw [hd] at hh; exact hQ c d v a w hh
   | [], hok, _ => simp [chainOk] at hok
   | _ :: _ :: _, hok, _ => simp [chainOk] at hok
  | false =>
   simp only [chainOk, Bool.and_eq_true] at hok
   obtain ⟨h1, h2⟩ := hok
   exact any_of_list (wpChain P ops Q r) (chainLen r) l listed a w h1 (fun a w h' => ih _ a w h2 h') (h _ fun _ _ h' => h')
theorem wp_region_chain {id : Nat} {a : Act} {w : World} (l : List (Bool × List Nat)) (hm : P.follows .mixedOrders = true) (hs : Region.noSelect ops = true)
  (hok : (chainOk ops l (Array.replicate ops.size false) && (chainLen l == ops.size)) = true) (hQ : ∀ c (d : Tmp) v a w, Q (.panic c) (Act.put a (some d) v) w → Q (.panic c) a w)
  (h : wpChain P ops Q l a w.drew) : (Code.region id ops true).wp P Q a w := by
 simp only [Bool.and_eq_true, beq_iff_eq] at hok
 refine wp_region_any hm ?_
 rw [← hok.2]
 exact any_of_chain hs hQ l _ a _ (by rw [hok.2]; exact hok.1) h
theorem chain_alone {l : List Nat} {r : List (Bool × List Nat)} {os : List Oper} {a : Act} {w : World} (hos : pickOps ops l = os)
  (h : ∀ K : Act → World → Prop, Hid (∀ a w, wpChain P ops Q r a w → K a w) → wpList P ops (Exit.then K Q) os a w) : wpChain P ops Q ((false, l) :: r) a w := by
 subst hos
 exact fun K hK => h K hK
theorem chain_nil {a : Act} {w : World} (h : Q .normal a w) : wpChain P ops Q [] a w := h
theorem chain_take {l : List Nat} {r : List (Bool × List Nat)} {o : Oper} {v : Value} {a : Act} {w : World} (ho : pickOps ops l = [o]) (hy : Yields P ops o v a)
  (h : wpChain P ops Q r (a.put o.dst v) w) : wpChain P ops Q ((true, l) :: r) a w := by
 simp only [wpChain, ho]
 exact ⟨v, hy, h⟩
end
section
variable {P : Program} {ops : Array Oper} {Q : Exit → Act → World → Prop}
theorem rgC {id : Nat} {a : Act} {w : World} (l : List (Bool × List Nat)) (h : wpChain P ops Q l a w.drew) (hm : P.follows .mixedOrders = true := by kernel_rfl) (hs : Region.noSelect ops = true := by kernel_rfl)
  (hok : (chainOk ops l (Array.replicate ops.size false) && (chainLen l == ops.size)) = true := by kernel_rfl) (hQ : ∀ c (d : Tmp) v a w, Q (.panic c) (Act.put a (some d) v) w → Q (.panic c) a w := by exact fun _ _ _ _ _ h => h) : (Code.region id ops true).wp P Q a w := wp_region_chain l hm hs hok hQ h
theorem alC {l : List Nat} {r : List (Bool × List Nat)} {os : List Oper} {a : Act} {w : World}
  (h : ∀ K : Act → World → Prop, Hid (∀ a w, wpChain P ops Q r a w → K a w) → wpList P ops (Exit.then K Q) os a w) (ho : pickOps ops l = os := by simp only [pickOps, List.getElem?_toArray, List.getElem?_cons_zero, List.getElem?_cons_succ] <;> rfl) : wpChain P ops Q ((false, l) :: r) a w := chain_alone ho h
theorem stC {l : List Nat} {r : List (Bool × List Nat)} {o : Oper} {v : Value} {a a2 : Act} {w : World} (ho : pickOps ops l = [o] := by simp only [pickOps, List.getElem?_toArray, List.getElem?_cons_zero, List.getElem?_cons_succ] <;> rfl)
  (hw : Region.wanted o (yielded ops a.tmps) = true := by rfl) (hy : ∀ w, (execOp a.eval o).run P w = .ok (.value v) w := by intro w; go_simp <;> with_reducible rfl)
  (ha : a.put o.dst v = a2 := by simp only [Act.put, List.setIfInBounds_toArray, List.set_cons_zero, List.set_cons_succ] <;> rfl) (h : wpChain P ops Q r a2 w) : wpChain P ops Q ((true, l) :: r) a w := chain_take ho (Or.inl ⟨hw, hy⟩) (ha ▸ h)
end
def wpChainH (P : Program) (ops : Array Oper) (Q : Exit → Act → World → Prop) (S : World → Prop) : List (Bool × Nat) → Act → World → Prop
 | [], a, w => Q .normal a w
 | (true, i) :: r, a, w => match ops[i]? with
  | some o => ∃ v, YieldsIf P ops S o v a ∧ wpChainH P ops Q S r (a.put o.dst v) w
  | none => False
 | (false, i) :: r, a, w => match ops[i]? with
  | some o => ∀ K : Act → World → Prop, (∀ a w, S w → wpChainH P ops Q S r a w → K a w) → wpList P ops (Exit.then K Q) [o] a w
  | none => False
def chainOkH (ops : Array Oper) : List (Bool × Nat) → Array Bool → Bool
 | [], listed => (Region.ready .any ops listed).isEmpty
 | (true, i) :: r, listed => Region.free .any ops listed i && (Region.ready .any ops listed).contains i && chainOkH ops r (listed.setIfInBounds i true)
 | (false, i) :: r, listed => (Region.ready .any ops listed == [i]) && chainOkH ops r (listed.setIfInBounds i true)
section
variable {P : Program} {ops : Array Oper} {Q : Exit → Act → World → Prop} {S : World → Prop}
theorem any_of_chainH (hs : Region.noSelect ops = true) (hQ : ∀ c (d : Tmp) v a w, Q (.panic c) (Act.put a (some d) v) w → Q (.panic c) a w) :
  ∀ (l : List (Bool × Nat)) (listed : Array Bool) (a : Act) (w : World), chainOkH ops l listed = true → S w → wpChainH P ops Q S l a w → wpAnyH P .any ops Q S l.length listed a w := by
 intro l
 induction l with
 | nil =>
  intro listed a w hok _ h
  exact wpAnyH_done (by simpa [chainOkH] using hok) h 0
 | cons x r ih =>
  obtain ⟨b, i⟩ := x
  intro listed a w hok hS h
  cases b with
  | true =>
   simp only [chainOkH, Bool.and_eq_true] at hok
   obtain ⟨⟨hf, hr⟩, hok⟩ := hok
   have hmem : i ∈ Region.ready .any ops listed := by simpa using hr
   obtain ⟨_, o, ho, _⟩ := mem_ready.1 hmem
   simp only [wpChainH, ho] at h
   obtain ⟨v, hy, h⟩ := h
   refine wpAnyH_take ho hs hf hr (fun c a w hh => ?_) hy hS (ih _ _ _ hok hS h)
   cases hd : o.dst with
   | none => rw [hd] at hh; exact hh
   | some d => rw [hd] at hh; exact hQ c d v a w hh
  | false =>
   simp only [chainOkH, Bool.and_eq_true, beq_iff_eq] at hok
   obtain ⟨hr, hok⟩ := hok
   refine wpAnyH_all hr (by simp) fun j hj => ?_
   obtain rfl : j = i := by simpa using hj
   have hmem : j ∈ Region.ready .any ops listed := by rw [hr]; simp
   obtain ⟨_, o, ho, _⟩ := mem_ready.1 hmem
   simp only [wpChainH, ho] at h
   have h := h (fun a' w' => S w' ∧ wpAnyH P .any ops Q S r.length (listed.setIfInBounds j true) a' w') (fun a' w' hS' h' => ⟨hS', ih _ a' w' hok hS' h'⟩)
   unfold wpOp
   simp only [ho]
   unfold wpList at h
   split at h
   ·rename_i hw
    rw [if_pos hw]
    rcases h with h | ⟨h1, h2⟩
    ·exact .inl (upon_list (fun a' w' h' => h') _ h)
    ·exact .inr ⟨h1, h2⟩
   ·rename_i hw
    rw [if_neg hw]
    exact h
theorem wp_region_chainH {id : Nat} {a : Act} {w : World} (S : World → Prop) (l : List (Bool × Nat)) (hm : P.follows .mixedOrders = true) (hs : Region.noSelect ops = true)
  (hok : (chainOkH ops l (Array.replicate ops.size false) && (l.length == ops.size)) = true) (hQ : ∀ c (d : Tmp) v a w, Q (.panic c) (Act.put a (some d) v) w → Q (.panic c) a w)
  (hS : S w.drew) (h : wpChainH P ops Q S l a w.drew) : (Code.region id ops true).wp P Q a w := by
 simp only [Bool.and_eq_true, beq_iff_eq] at hok
 refine wp_region_held (S := S) hm ?_
 rw [← hok.2]
 exact any_of_chainH hs hQ l _ a _ (by rw [hok.2]; exact hok.1) hS h
theorem chainH_alone {i : Nat} {r : List (Bool × Nat)} {o : Oper} {a : Act} {w : World} (ho : ops[i]? = some o)
  (h : ∀ K : Act → World → Prop, Hid (∀ a w, S w → wpChainH P ops Q S r a w → K a w) → wpList P ops (Exit.then K Q) [o] a w) : wpChainH P ops Q S ((false, i) :: r) a w := by
 simp only [wpChainH, ho]
 exact fun K hK => h K hK
theorem chainH_nil {a : Act} {w : World} (h : Q .normal a w) : wpChainH P ops Q S [] a w := h
theorem chainH_take {i : Nat} {r : List (Bool × Nat)} {o : Oper} {v : Value} {a : Act} {w : World} (ho : ops[i]? = some o) (hw : Region.wanted o (yielded ops a.tmps) = true)
  (hy : ∀ w, S w → (execOp a.eval o).run P w = .ok (.value v) w) (h : wpChainH P ops Q S r (a.put o.dst v) w) : wpChainH P ops Q S ((true, i) :: r) a w := by
 simp only [wpChainH, ho]
 exact ⟨v, Or.inl ⟨hw, hy⟩, h⟩
theorem chainH_skip {i : Nat} {r : List (Bool × Nat)} {o : Oper} {a : Act} {w : World} (ho : ops[i]? = some o) (hw : Region.wanted o (yielded ops a.tmps) = false)
  (h : wpChainH P ops Q S r (a.put o.dst undef) w) : wpChainH P ops Q S ((true, i) :: r) a w := by
 simp only [wpChainH, ho]
 exact ⟨undef, Or.inr ⟨hw, rfl⟩, h⟩
theorem chainH_pass {i : Nat} {r : List (Bool × Nat)} {o : Oper} {a : Act} {w : World} (ho : ops[i]? = some o) (hw : Region.wanted o (yielded ops a.tmps) = false) (hS : S w)
  (h : wpChainH P ops Q S r (a.put o.dst undef) w) : wpChainH P ops Q S ((false, i) :: r) a w := by
 simp only [wpChainH, ho]
 intro K hK; unfold wpList
 rw [if_neg (by rw [hw]; simp)]
 exact hK _ _ hS h
end
section
variable {P : Program} {ops : Array Oper} {Q : Exit → Act → World → Prop} {S : World → Prop}
theorem rgH {id : Nat} {a : Act} {w : World} (S : World → Prop) (l : List (Bool × Nat)) (hS : S w.drew) (h : wpChainH P ops Q S l a w.drew) (hm : P.follows .mixedOrders = true := by kernel_rfl) (hs : Region.noSelect ops = true := by kernel_rfl)
  (hok : (chainOkH ops l (Array.replicate ops.size false) && (l.length == ops.size)) = true := by kernel_rfl) (hQ : ∀ c (d : Tmp) v a w, Q (.panic c) (Act.put a (some d) v) w → Q (.panic c) a w := by exact fun _ _ _ _ _ h => h) : (Code.region id ops true).wp P Q a w := wp_region_chainH S l hm hs hok hQ hS h
theorem alH {i : Nat} {r : List (Bool × Nat)} {o : Oper} {a : Act} {w : World}
  (h : ∀ K : Act → World → Prop, Hid (∀ a w, S w → wpChainH P ops Q S r a w → K a w) → wpList P ops (Exit.then K Q) [o] a w) (ho : ops[i]? = some o := by simp only [List.getElem?_toArray, List.getElem?_cons_zero, List.getElem?_cons_succ] <;> rfl) : wpChainH P ops Q S ((false, i) :: r) a w := chainH_alone ho h
theorem stH {i : Nat} {r : List (Bool × Nat)} {o : Oper} {v : Value} {a a2 : Act} {w : World} (ho : ops[i]? = some o := by simp only [List.getElem?_toArray, List.getElem?_cons_zero, List.getElem?_cons_succ] <;> rfl) (hw : Region.wanted o (yielded ops a.tmps) = true := by rfl) (hy : ∀ w, S w → (execOp a.eval o).run P w = .ok (.value v) w := by intro w hS; go_simp <;> with_reducible rfl)
  (ha : a.put o.dst v = a2 := by simp only [Act.put, List.setIfInBounds_toArray, List.set_cons_zero, List.set_cons_succ] <;> rfl) (h : wpChainH P ops Q S r a2 w) : wpChainH P ops Q S ((true, i) :: r) a w := chainH_take ho hw hy (ha ▸ h)
theorem skH {i : Nat} {r : List (Bool × Nat)} {o : Oper} {a a2 : Act} {w : World} (ho : ops[i]? = some o := by simp only [List.getElem?_toArray, List.getElem?_cons_zero, List.getElem?_cons_succ] <;> rfl) (hw : Region.wanted o (yielded ops a.tmps) = false := by rfl) (ha : a.put o.dst undef = a2 := by simp only [Act.put, List.setIfInBounds_toArray, List.set_cons_zero, List.set_cons_succ] <;> rfl) (h : wpChainH P ops Q S r a2 w) : wpChainH P ops Q S ((true, i) :: r) a w := chainH_skip ho hw (ha ▸ h)
theorem paH {i : Nat} {r : List (Bool × Nat)} {o : Oper} {a a2 : Act} {w : World} (hS : S w) (ho : ops[i]? = some o := by simp only [List.getElem?_toArray, List.getElem?_cons_zero, List.getElem?_cons_succ] <;> rfl) (hw : Region.wanted o (yielded ops a.tmps) = false := by rfl) (ha : a.put o.dst undef = a2 := by simp only [Act.put, List.setIfInBounds_toArray, List.set_cons_zero, List.set_cons_succ] <;> rfl) (h : wpChainH P ops Q S r a2 w) : wpChainH P ops Q S ((false, i) :: r) a w := chainH_pass ho hw hS (ha ▸ h)
end
end
end Go.Proofs.YtoddfaoifnkhlaaGreatDoor
