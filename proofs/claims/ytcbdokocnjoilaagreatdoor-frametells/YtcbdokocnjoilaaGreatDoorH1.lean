/-
  Contracts and plain mathematics of Kit, Mem, Words, BMath, WMath, CMath, NMath, LMath.
-/
import Derived.WalkKit
import Derived.WalkSpells
import Derived.ProofKit
import Derived.OpenShut
import Derived.Maps.AppendAt
import Derived.Deep.Draws
import Derived.Deep.QuietTactic
import Derived.BigQuiet
import Derived.Laws.AppendOwnNone
import Derived.Laws.BytesString
import Derived.Laws.IdiomStrings
import Derived.Deep.AppendLies
import Derived.WalkMore
import Derived.Lib.BitFns
namespace Go.Proofs.YtcbdokocnjoilaaGreatDoor
set_option maxRecDepth 100000
set_option linter.unusedVariables false
set_option maxHeartbeats 8000000
section
open Go.ChangeShapes Go.WideShapes Go.ChangeAt Go.RowKit
theorem hide {p : Prop} (h : p) : Hid p := h
theorem ret_int {k : IntKind} {a b : Int} (h : a = b) : Ending.returned (.int k a) = .returned (.int k b) := by rw [h]

/-- A slice of numbers: its cells hold zs, wherever it lies; of an empty one nothing is asked. -/
def Ints (k : IntKind) (w : World) (a : Option Addr) (zs : List Int) : Prop :=
  zs = [] ∨ ∃ b off, a = some ⟨b, off, none⟩ ∧ ∀ i, i < zs.length → w.cell? ⟨b, off + i, none⟩ = some (.int k (zs.getD i 0))

section
variable {k : IntKind} {w w' : World} {a : Option Addr} {zs : List Int}
theorem Ints.nil : Ints k w a [] := .inl rfl
theorem Ints.at (h : Ints k w a zs) {i : Nat} (hi : i < zs.length) :
    ∃ b off, a = some ⟨b, off, none⟩ ∧ w.cell? ⟨b, off + i, none⟩ = some (.int k (zs.getD i 0)) ∧ b < w.heap.size := by
  rcases h with h | ⟨b, off, ha, hc⟩
  · subst h; simp at hi
  · exact ⟨b, off, ha, hc i hi, block_lt_of_cell (hc i hi)⟩
theorem Ints.keep (h : Ints k w a zs) (hk : ∀ p : Addr, p.block < w.heap.size → w'.cell? p = w.cell? p) : Ints k w' a zs := by
  rcases h with h | ⟨b, off, ha, hc⟩
  · exact .inl h
  · exact .inr ⟨b, off, ha, fun i hi => (hk _ (block_lt_of_cell (hc i hi))).trans (hc i hi)⟩
theorem Ints.below (h : Ints k w a zs) (hb : Below w.heap.size w w') : Ints k w' a zs := h.keep fun _ hp => hb.cell hp
theorem Ints.alloc (h : Ints k w a zs) (o : Obj) : Ints k (w.alloc o) a zs := h.keep fun p hp => World.cell?_alloc_lt w o p hp
theorem Ints.drewN (h : Ints k w a zs) (n : Nat) : Ints k (w.drewN n) a zs := h
theorem Ints.drew (h : Ints k w a zs) : Ints k w.drew a zs := h
theorem Ints.take (h : Ints k w a zs) (n : Nat) : Ints k w a (zs.take n) := by
  rcases h with h | ⟨b, off, ha, hc⟩
  · exact .inl (by simp [h])
  · refine .inr ⟨b, off, ha, fun i hi => ?_⟩
    rw [List.length_take] at hi
    rw [hc i (by omega)]
    simp [show i < n by omega]
theorem Ints.drop (h : Ints k w a zs) (n : Nat) : Ints k w (a.map (·.add n)) (zs.drop n) := by
  rcases h with h | ⟨b, off, ha, hc⟩
  · exact .inl (by simp [h])
  · refine .inr ⟨b, off + n, ?_, fun i hi => ?_⟩
    · subst ha; simp only [Option.map_some, Addr.add]; split <;> simp_all
    · rw [List.length_drop] at hi
      rw [show off + n + i = off + (n + i) by omega, hc (n + i) (by omega)]
      simp [List.getElem?_drop]
theorem Ints.cut (h : Ints k w a zs) (n cap : Nat) (hc : zs.length ≤ cap) : Ints k w (if cap = n then a else a.map (·.add n)) (zs.drop n) := by
  by_cases e : cap = n
  · rw [if_pos e]; exact .inl (List.drop_eq_nil_of_le (by omega))
  · rw [if_neg e]; exact h.drop n
end

/-- A block that the call has just made, read as numbers. -/
theorem Ints.new (k : IntKind) (w : World) (t : TypeId) (zs : List Int) : Ints k (w.alloc (.cells (zs.map (Value.int k)).toArray t)) (some ⟨w.heap.size, 0, none⟩) zs := by
  refine .inr ⟨_, _, rfl, fun i hi => ?_⟩
  rw [Nat.zero_add, World.cell?_alloc_at (w := w) _ t _ i rfl]
  simp [List.getElem?_eq_getElem hi]

/-- What the loaded program's table says of a slice type S over numbers of type e. -/
structure Elem (P : Program) (S e : TypeId) (k : IntKind) (bytes : Nat) : Prop where
  under : P.underlying S = some (.slice e)
  info : (P.info? e).map (fun i => (i.zero, i.size, i.bytes)) = some (some (.int k 0), 1, bytes)

/-- A row of numbers of the call's own (blocks from B on), all that lay below B being as it was. -/
structure Own (e : TypeId) (k : IntKind) (B : Nat) (w wr : World) (v : Value) (bs : List Int) : Prop where
  own : wr.ownsRow B e 1 v bs.length (bs.map (Value.int k))
  bel : Below B w wr
  le : B ≤ wr.heap.size

theorem own_ge {w : World} {B : Nat} {e : TypeId} {s n : Nat} {v : Value} {xs : List Value} (h : w.ownsRow B e s v n xs) : ∀ g, v.ownBlock = some g → B ≤ g := fun g hg => (h.lt g hg).1

section
variable {e : TypeId} {k : IntKind} {B : Nat} {w wr : World} {v : Value} {bs : List Int}
theorem Own.start (hB : B ≤ w.heap.size) : Own e k B w w (.slice none 0 0) [] := ⟨World.ownsRow_nil _ _ _ _, Below.refl _ _, hB⟩
/-- A literal without elements, just made. -/
theorem Own.empty (w : World) (e : TypeId) (k : IntKind) : Own e k w.heap.size w (w.alloc (.cells #[] e)) (.slice (some ⟨w.heap.size, 0, none⟩) 0 0) [] :=
  ⟨⟨by simp, .inr ⟨w.heap.size, 0, #[], rfl, Nat.le_refl _, heap_alloc_new w _, Nat.le_refl _, Nat.zero_le _, rfl, rfl⟩⟩, (Below.refl _ _).alloc (Nat.le_refl _) _, by simp⟩
/-- As a slice that is read. -/
theorem Own.form (h : Own e k B w wr v bs) : ∃ A cap, v = .slice A bs.length cap ∧ Ints k wr A bs ∧ bs.length ≤ cap ∧ (A = none → cap = 0) := by
  rcases h.own.2 with ⟨rfl, h0⟩ | ⟨g, cap, cur, rfl, _, _, hc, _, _, _⟩
  · have : bs = [] := List.eq_nil_of_length_eq_zero h0
    subst this
    exact ⟨none, 0, rfl, .nil, Nat.le_refl _, fun _ => rfl⟩
  · refine ⟨_, cap, rfl, .inr ⟨g, 0, rfl, fun i hi => ?_⟩, hc, fun h => by cases h⟩
    rw [Nat.zero_add, h.own.cellAt i (by omega)]
    simp [List.getElem?_eq_getElem hi]
theorem Own.later {w1 : World} (h : Own e k B w wr v bs) (hb : Below wr.heap.size wr w1) : Own e k B w w1 v bs := by
  refine ⟨⟨h.own.1, ?_⟩, h.bel.trans (hb.mono h.le), Nat.le_trans h.le hb.size⟩
  rcases h.own.2 with h0 | ⟨g, cap, cur, hv, hB, hh, h1⟩
  · exact .inl h0
  · refine .inr ⟨g, cap, cur, hv, hB, ?_, h1⟩
    rw [hb.block g (Array.getElem?_eq_some_iff.1 hh).1, hh]
theorem Own.alloc (h : Own e k B w wr v bs) (o : Obj) : Own e k B w (wr.alloc o) v bs := ⟨h.own.alloc o, h.bel.alloc h.le o, by have := h.le; simp; omega⟩
theorem Own.grown {w1 : World} {v' : Value} {ns : List Int} (h : Own e k B w wr v bs) (h1 : w1.ownsRow B e 1 v' (bs.length + ns.length) (bs.map (Value.int k) ++ ns.map (Value.int k)))
    (hg : wr.grownBy w1 v.ownBlock) : Own e k B w w1 v' (bs ++ ns) :=
  ⟨by simpa using h1, h.bel.grown hg h.le (own_ge h.own), Nat.le_trans h.le hg.size⟩
end

theorem oneCells (k : IntKind) (ns : List Int) : ∀ u ∈ ns.map (Value.int k), u.oneCell' = true := by
  intro u hu
  obtain ⟨x, _, rfl⟩ := List.mem_map.1 hu
  rfl

/-- An operation that is wanted. -/
theorem wpList_want {P : Program} {ops : Array Oper} {rest : List Oper} {o : Oper} {a : Act} {w : World} {Q : Exit → Act → World → Prop} (hw : Region.wanted o (yielded ops a.tmps) = true)
    (h : ∀ K : Act → World → Prop, (∀ a w, wpList P ops Q rest a w → K a w) → o.wp P a w K Q) : wpList P ops Q (o :: rest) a w :=
  wpList_step fun K hK => by rw [if_pos hw]; exact h K hK

/-- An operation whose value is known. -/
theorem wpList_val {P : Program} {ops : Array Oper} {rest : List Oper} {o : Oper} {a : Act} {w : World} {Q : Exit → Act → World → Prop} {v : Value} (hw : Region.wanted o (yielded ops a.tmps) = true)
    (hrun : (execOp a.eval o).run P w = .ok (.value v) w) (h : wpList P ops Q rest (a.put o.dst v) w) : wpList P ops Q (o :: rest) a w :=
  wpList_want hw fun K hK => by
    unfold Oper.wp
    rw [hrun]
    exact hK _ _ h

theorem exec_binop {P : Program} {w : World} {ρ : Operand → Value} {o : Oper} {op : BinOp} {t u : TypeId} {x y : Operand} {v1 v2 v : Value} (ho : o.op = .binOp op t x y u) (hop : eqGuard op t x y v1 v2 = pure ())
    (h1 : ρ x = v1) (h2 : ρ y = v2) (h : (binOp op t v1 v2).run P w = .ok v w) : (execOp ρ o).run P w = .ok (.value v) w := by
  simp only [execOp, ho, h1, h2, hop, Sem.run_bind, Sem.run_pure, h, Result.andThen]

/-- 'x % y' on numbers, its value under a name. -/
theorem run_rem_nat {P : Program} (w : World) (t : TypeId) (k : IntKind) (C : Int) (L R : Nat) (hL : 0 < L) (h : C.tmod (L : Int) = (R : Int)) :
    (binOp .rem t (.int k C) (.int k (L : Int))).run P w = .ok (.int k (R : Int)) w := by
  have : ¬ (L : Int) = 0 := by omega
  simp only [binOp_rem, Op.intDiv, this, if_false, h]
  rfl

/-- 'append(row, x)', x in a block of its own. -/
theorem wpList_push {P : Program} {S e : TypeId} {k : IntKind} {bytes : Nat} (E : Elem P S e k bytes) {ops : Array Oper} {rest : List Oper} {o : Oper} {a : Act} {Q : Exit → Act → World → Prop} {B : Nat} {w wr : World} {v : Value} {bs : List Int} {x : Int}
    (hgd : Region.wanted o (yielded ops a.tmps) = true) (s y : Operand) (ho : o.op = .call { callee := .builtin .append, args := #[s, y], argTypes := #[S, S] })
    (hs : a.eval s = v) (hy : a.eval y = .slice (some ⟨wr.heap.size, 0, none⟩) 1 1) (hown : Own e k B w wr v bs) (hlen : bs.length ≤ 1000000) (hby : bytes ≤ 1000)
    (h : ∀ v' w1, Own e k B w w1 v' (bs ++ [x]) → wpList P ops Q rest (a.put o.dst v') w1) : wpList P ops Q (o :: rest) a (wr.alloc (.cells #[.int k x] e)) := by
  obtain ⟨i0, hi, hz0, hz1, hz2⟩ := info_parts E.info
  have hb : (bs.length + 1) * bytes ≤ 1000001 * 1000 := Nat.mul_le_mul (by omega) hby
  refine wpList_want hgd fun K hK => ?_
  refine wp_append_own _ s y S ho B e i0 (.int k 0) 1 bytes E.under hi hz0 hz1 hz2 rfl (by decide) v bs.length _ hs (hown.own.alloc _) ⟨wr.heap.size, 0, none⟩ 1 1 [.int k x] hy rfl (cell_one_new _ _ _) (oneCells k [x])
    (by unfold maxLen; omega) (by omega) (by have := hown.le; simp; omega) ?_
  intro v' w1 h1 hg _
  exact hK _ _ (h v' w1 ((hown.alloc _).grown (ns := [x]) h1 hg))

/-- 'append(row, src...)', src whatever. -/
theorem wpList_cat {P : Program} {S e : TypeId} {k : IntKind} {bytes : Nat} (E : Elem P S e k bytes) {ops : Array Oper} {rest : List Oper} {o : Oper} {a : Act} {Q : Exit → Act → World → Prop} {B : Nat} {w wr : World} {v : Value} {bs ns : List Int} {A : Option Addr} {n c : Nat}
    (hgd : Region.wanted o (yielded ops a.tmps) = true) (s y : Operand) (ho : o.op = .call { callee := .builtin .append, args := #[s, y], argTypes := #[S, S] })
    (hs : a.eval s = v) (hy : a.eval y = .slice A n c) (hown : Own e k B w wr v bs) (hns : Ints k wr A ns) (hn : ns.length = n) (hc : A = none → c = 0) (hlen : bs.length + n ≤ 1000000) (hby : bytes ≤ 1000)
    (h : ∀ v' w1, Own e k B w w1 v' (bs ++ ns) → wpList P ops Q rest (a.put o.dst v') w1) : wpList P ops Q (o :: rest) a wr := by
  subst hn
  obtain ⟨i0, hi, hz0, hz1, hz2⟩ := info_parts E.info
  have hb : (bs.length + ns.length) * bytes ≤ 1000000 * 1000 := Nat.mul_le_mul hlen hby
  refine wpList_want hgd fun K hK => ?_
  cases A with
  | none =>
    have hn : ns = [] := by
      rcases hns with h | ⟨_, _, h, _⟩
      · exact h
      · cases h
    subst hn
    obtain rfl : c = 0 := hc rfl
    have hrun := run_append_owned_none (P := P) (w := wr) B S o.type e i0 1 E.under hi v bs.length _ hown.own
    unfold Oper.wp
    simp [execOp, ho, resolve, invoke, builtin, hs, hy, hrun, Result.andThen]
    exact hK _ _ (h v wr (by simpa using hown))
  | some ad =>
    refine wp_append_own _ s y S ho B e i0 (.int k 0) 1 bytes E.under hi hz0 hz1 hz2 rfl (by decide) v bs.length _ hs hown.own ad ns.length c (ns.map (Value.int k)) hy (by simp) ?_ (oneCells k ns)
      (by unfold maxLen; omega) (by omega) hown.le ?_
    · intro j u hu
      have hj : j < ns.length := by have := (List.getElem?_eq_some_iff.1 hu).1; simpa using this
      obtain ⟨b, off, e1, hcell, _⟩ := hns.at hj
      cases e1
      have : (⟨b, off, none⟩ : Addr).add j = ⟨b, off + j, none⟩ := by unfold Addr.add; split <;> simp_all
      rw [this, hcell]
      simp [List.getElem?_eq_getElem hj] at hu ⊢
      exact hu
    · intro v' w1 h1 hg _
      exact hK _ _ (h v' w1 (hown.grown h1 hg))

/-- Bytes as a string. -/
def strOf (bs : List Int) : ByteArray := ⟨(bs.map fun b => UInt8.ofNat b.toNat).toArray⟩

theorem run_strOf {P : Program} (w : World) (S T e : TypeId) (hs : P.underlying S = some (.slice e)) (he : P.underlying e = some (.int .u8)) (hd : P.underlying T = some .string) (A : Option Addr) (c : Nat) (bs : List Int)
    (h : Ints .u8 w A bs) (hb : ∀ x ∈ bs, 0 ≤ x ∧ x ≤ 255) : (convert S T (.slice A bs.length c)).run P w = .ok (.string (strOf bs)) w := by
  cases A with
  | none =>
    have hn : bs = [] := by
      rcases h with h | ⟨_, _, h, _⟩
      · exact h
      · cases h
    subst hn
    rw [run_convert_bytes_string w S T e none _ c hs he hd]
    rfl
  | some ad =>
    have hl : bs.length = (bs.map fun b => UInt8.ofNat b.toNat).length := by simp
    rw [hl]
    refine run_convert_bytes_back w S T e ad c _ hs he hd ?_
    intro j hj
    have hj' : j < bs.length := by simpa using hj
    obtain ⟨b, off, e1, hcell, _⟩ := h.at hj'
    cases e1
    have : (⟨b, off, none⟩ : Addr).add j = ⟨b, off + j, none⟩ := by unfold Addr.add; split <;> simp_all
    rw [this, hcell]
    have hm : bs[j] ∈ bs := List.getElem_mem hj'
    have := hb _ hm
    simp [List.getElem?_eq_getElem hj']
    omega
theorem exq {α : Sort _} (a : α) : ∃ b, a = b := ⟨a, rfl⟩
/-- Block g is just these cells. -/
def Whole (w : World) (g : Nat) (t : TypeId) (l : List Value) : Prop := w.heap[g]? = some (.cells l.toArray t (0, 0))

section
variable {w w' : World} {g : Nat} {t : TypeId} {l : List Value}
theorem Whole.cell (h : Whole w g t l) (i : Nat) : w.cell? ⟨g, i, none⟩ = l[i]? := by
  rw [cell_of_row w g i l.toArray t (0, 0) h]; simp
theorem Whole.frozen (h : Whole w g t l) (i : Nat) : w.frozen? ⟨g, i, none⟩ = false := by
  unfold Whole at h; simp [World.frozen?, h]
theorem Whole.lt (h : Whole w g t l) : g < w.heap.size := (Array.getElem?_eq_some_iff.1 h).1
theorem Whole.new (w : World) (t : TypeId) (l : List Value) : Whole (w.alloc (.cells l.toArray t)) w.heap.size t l := heap_alloc_new w _
theorem Whole.alloc (h : Whole w g t l) (o : Obj) : Whole (w.alloc o) g t l := (Below.heap_alloc w o g h.lt).trans h
theorem Whole.drewN (h : Whole w g t l) (n : Nat) : Whole (w.drewN n) g t l := h
theorem Whole.drew (h : Whole w g t l) : Whole w.drew g t l := h
theorem Whole.put (h : Whole w g t l) (i : Nat) (u : Value) : Whole (w.setCell ⟨g, i, none⟩ u) g t (l.set i u) := by
  unfold Whole
  rw [heap_setCell_same w g i l.toArray t u h]
  simp
theorem Whole.below {B : Nat} (h : Whole w g t l) (hb : Below B w w') (hg : g < B) : Whole w' g t l := (hb.block g hg).trans h
theorem Whole.later (h : Whole w g t l) (hb : Below w.heap.size w w') : Whole w' g t l := h.below hb h.lt
theorem Whole.far {g' : Nat} (h : Whole w g t l) (hg : w.grownBy w' (some g')) (hne : g ≠ g') : Whole w' g t l := (hg.block g h.lt (by simpa using hne)).trans h
end

/-- Block g alone, and what is new, has turned. -/
def Only (g : Nat) (w w' : World) : Prop := w.grownBy w' (some g)
section
variable {g : Nat} {w w' w'' : World}
theorem Only.refl : Only g w w := ⟨rfl, rfl, rfl, Nat.le_refl _, fun _ _ _ => rfl⟩
theorem Only.trans (h : Only g w w') (k : Only g w' w'') : Only g w w'' :=
  ⟨k.os.trans h.os, k.tape.trans h.tape, k.output.trans h.output, Nat.le_trans h.size k.size, fun i hi hne => (k.block i (Nat.lt_of_lt_of_le hi h.size) hne).trans (h.block i hi hne)⟩
theorem Only.put (i : Nat) (u : Value) : Only g w (w.setCell ⟨g, i, none⟩ u) :=
  ⟨rfl, rfl, rfl, by simp [World.setCell], fun k _ hne => Below.heap_setCell _ _ _ _ (by intro e; exact hne (by simp [e]))⟩
theorem Only.of_below (h : Below w.heap.size w w') : Only g w w' := ⟨h.os, h.tape, h.output, h.size, fun i hi _ => h.block i hi⟩
theorem Only.below {B : Nat} {a : World} (h : Only g w w') (hb : Below B a w) (hB : B ≤ w.heap.size) (hg : B ≤ g) : Below B a w' := hb.grown h hB (by intro k hk; simp at hk; omega)
theorem Only.ints {k : IntKind} {A : Option Addr} {zs : List Int} {t : TypeId} {l : List Value} (h : Only g w w') (hi : Ints k w A zs) (hw : Whole w g t l) (hl : ∀ x, .int k x ∉ l) : Ints k w' A zs := by
  rcases hi with hi | ⟨b, off, ha, hc⟩
  · exact .inl hi
  · refine .inr ⟨b, off, ha, fun i hi => ?_⟩
    have hne : b ≠ g := by
      rintro rfl
      have h1 := hc i hi
      rw [hw.cell] at h1
      exact hl _ (List.mem_of_getElem? h1)
    rw [World.grownBy.cell_far h _ (block_lt_of_cell (hc i hi)) (by simpa using hne), hc i hi]
theorem Only.size (h : Only g w w') : w.heap.size ≤ w'.heap.size := World.grownBy.size h
end
theorem ret_bool {a b : Bool} (h : a = b) : Ending.returned (.bool a) = .returned (.bool b) := by rw [h]
theorem _root_.Go.RowKit.Below.drewN {B : Nat} {w w' : World} (h : Below B w w') (n : Nat) : Below B w (w'.drewN n) := ⟨h.os, h.tape, h.output, h.size, h.block⟩
theorem bd1 {B : Nat} {w : World} : Below B w (w.drewN 1) := (Below.refl _ _).drewN 1

/-! ### lists of numbers -/
def Byte (bs : List Int) : Prop := ∀ x ∈ bs, 0 ≤ x ∧ x ≤ 255
theorem Byte.drop {b : List Int} (h : Byte b) (n : Nat) : Byte (b.drop n) := fun x hx => h x (List.mem_of_mem_drop hx)
theorem Byte.take {b : List Int} (h : Byte b) (n : Nat) : Byte (b.take n) := fun x hx => h x (List.mem_of_mem_take hx)
theorem Byte.append {a b : List Int} (h : Byte a) (k : Byte b) : Byte (a ++ b) := fun x hx => by rcases List.mem_append.1 hx with q | q; exact h x q; exact k x q
/-- Numbers that a rune may be. -/
def Rn (zs : List Int) : Prop := ∀ x ∈ zs, -2147483648 ≤ x ∧ x ≤ 2147483647
theorem getD_mem (zs : List Int) (k : Nat) (hk : k < zs.length) : zs.getD k 0 ∈ zs := by
  rw [List.getD_eq_getElem?_getD, List.getElem?_eq_getElem hk]
  exact List.getElem_mem hk
theorem Rn.at {zs : List Int} (h : Rn zs) (k : Nat) (hk : k < zs.length) : -2147483648 ≤ zs.getD k 0 ∧ zs.getD k 0 ≤ 2147483647 := h _ (getD_mem zs k hk)
theorem getD_byte (zs : List Int) (h : Byte zs) (k : Nat) (hk : k < zs.length) : ∃ n : Nat, zs.getD k 0 = (n : Int) ∧ n ≤ 255 := by
  have := h _ (getD_mem zs k hk)
  exact ⟨(zs.getD k 0).toNat, by omega, by omega⟩
theorem drop_at (zs : List Int) (k : Nat) (n : Int) (hk : k < zs.length) (h : zs.getD k 0 = n) : zs.drop k = n :: zs.drop (k + 1) := by
  rw [List.drop_eq_getElem_cons hk]
  rw [List.getD_eq_getElem?_getD, List.getElem?_eq_getElem hk] at h
  simp at h
  rw [h]
theorem take_snoc (zs : List Int) (k : Nat) (r : Int) (hk : k < zs.length) (hr : zs.getD k 0 = r) : zs.take (k + 1) = zs.take k ++ [r] := by
  rw [List.take_succ_eq_append_getElem hk]
  rw [List.getD_eq_getElem?_getD, List.getElem?_eq_getElem hk] at hr
  simp at hr
  rw [hr]
theorem take_next (p x : List Int) (k : Nat) (u : Int) (hp : k < p.length) (hx : k < x.length) (h : p.take k = x.take k) (h1 : p.getD k 0 = u) (h2 : x.getD k 0 = u) : p.take (k + 1) = x.take (k + 1) := by
  rw [take_snoc p k u hp h1, take_snoc x k u hx h2, h]
def lenOf : Value → Nat
  | .slice _ n _ => n
  | _ => 0
/-- 's[q:]' has an address wherever it has room. -/
theorem cut_nil_ {A : Option Addr} {c q : Nat} (h : A = none → c = 0) : (if c = q then A else A.map (·.add q)) = none → c - q = 0 := by
  intro e
  by_cases hc : c = q
  · omega
  · rw [if_neg hc] at e
    cases A with
    | none => rw [h rfl]; omega
    | some a => cases e

/-! ### rows -/
/-- The call made a row of these numbers, and left all that was there. -/
def Made (t : TypeId) (k : IntKind) (w : World) (bs : List Int) (e : Ending) (w' : World) : Prop := ∃ v, e = .returned v ∧ Own t k w.heap.size w w' v bs
/-- The call answered with this bool, and left all that was there. -/
def Said (b : Bool) (w : World) (e : Ending) (w' : World) : Prop := e = .returned (.bool b) ∧ Below w.heap.size w w'
/-- The call answered with this number, and left all that was there. -/
def Num (k : IntKind) (r : Int) (w : World) (e : Ending) (w' : World) : Prop := e = .returned (.int k r) ∧ Below w.heap.size w w'
/-- A literal, just made. -/
theorem Own.lit (w : World) (e : TypeId) (k : IntKind) (zs : List Int) (n : Nat) (hn : zs.length = n) (hl : n ≤ 1000000) :
    Own e k w.heap.size w (w.alloc (.cells (zs.map (Value.int k)).toArray e)) (.slice (some ⟨w.heap.size, 0, none⟩) n n) zs := by
  subst hn
  refine ⟨⟨by simp, .inr ⟨w.heap.size, zs.length, (zs.map (Value.int k)).toArray, rfl, Nat.le_refl _, heap_alloc_new w _, Nat.le_refl _, by unfold maxLen; omega, by simp, ?_⟩⟩, (Below.refl _ _).alloc (Nat.le_refl _) _, by simp⟩
  simp [List.take_of_length_le]
theorem Own.form2 {e : TypeId} {k : IntKind} {B : Nat} {w wr : World} {v : Value} {bs : List Int} (h : Own e k B w wr v bs) :
    ∃ A cap, v = .slice A bs.length cap ∧ Ints k wr A bs ∧ bs.length ≤ cap ∧ (A = none → cap = 0) ∧ cap ≤ maxLen := by
  rcases h.own.2 with ⟨rfl, h0⟩ | ⟨g, cap, cur, rfl, _, _, hc, hm, _, _⟩
  · have : bs = [] := List.eq_nil_of_length_eq_zero h0
    subst this
    exact ⟨none, 0, rfl, .nil, Nat.le_refl _, fun _ => rfl, Nat.zero_le _⟩
  · refine ⟨_, cap, rfl, .inr ⟨g, 0, rfl, fun i hi => ?_⟩, hc, (fun h => by cases h), hm⟩
    rw [Nat.zero_add, h.own.cellAt i (by omega)]
    simp [List.getElem?_eq_getElem hi]
theorem Ints.newF (k : IntKind) (w : World) (t : TypeId) (fz : Nat × Nat) (zs : List Int) : Ints k (w.alloc (.cells (zs.map (Value.int k)).toArray t fz)) (some ⟨w.heap.size, 0, none⟩) zs := by
  refine .inr ⟨_, _, rfl, fun i hi => ?_⟩
  rw [Nat.zero_add, cell_of_row _ w.heap.size i _ t fz (heap_alloc_new w _)]
  simp [List.getElem?_eq_getElem hi]
theorem Own.now {e : TypeId} {k : IntKind} {B : Nat} {w wr : World} {v : Value} {bs : List Int} (h : Own e k B w wr v bs) : Own e k B wr wr v bs := ⟨h.own, Below.refl _ _, h.le⟩
/-- A row keeps where its block does. -/
theorem Own.keep {e : TypeId} {k : IntKind} {B : Nat} {w wr w1 : World} {v : Value} {bs : List Int} (h : Own e k B w wr v bs) (hb : ∀ g, B ≤ g → g < wr.heap.size → w1.heap[g]? = wr.heap[g]?) (hs : wr.heap.size ≤ w1.heap.size) : Own e k B w1 w1 v bs := by
  refine ⟨⟨h.own.1, ?_⟩, Below.refl _ _, Nat.le_trans h.le hs⟩
  rcases h.own.2 with h0 | ⟨g, cap, cur, hv, hB, hh, h1⟩
  · exact .inl h0
  · exact .inr ⟨g, cap, cur, hv, hB, (hb g hB (Array.getElem?_eq_some_iff.1 hh).1).trans hh, h1⟩

/-! ### of the blocks below B, g alone has turned -/
structure Fr (B g : Nat) (w w' : World) : Prop where
  os : w'.os = w.os
  tape : w'.tape = w.tape
  output : w'.output = w.output
  size : w.heap.size ≤ w'.heap.size
  block : ∀ i, i < B → i ≠ g → w'.heap[i]? = w.heap[i]?
section
variable {B g : Nat} {w w' w'' : World}
theorem Fr.refl : Fr B g w w := ⟨rfl, rfl, rfl, Nat.le_refl _, fun _ _ _ => rfl⟩
theorem Fr.trans (h : Fr B g w w') (k : Fr B g w' w'') : Fr B g w w'' :=
  ⟨k.os.trans h.os, k.tape.trans h.tape, k.output.trans h.output, Nat.le_trans h.size k.size, fun i hi hne => (k.block i hi hne).trans (h.block i hi hne)⟩
theorem Fr.of_below (h : Below B w w') : Fr B g w w' := ⟨h.os, h.tape, h.output, h.size, fun i hi _ => h.block i hi⟩
theorem Fr.put (i : Nat) (u : Value) : Fr B g w (w.setCell ⟨g, i, none⟩ u) :=
  ⟨rfl, rfl, rfl, by simp [World.setCell], fun k _ hne => Below.heap_setCell _ _ _ _ (by intro e; exact hne (by simp [e]))⟩
theorem Fr.drewN (h : Fr B g w w') (n : Nat) : Fr B g w (w'.drewN n) := ⟨h.os, h.tape, h.output, h.size, h.block⟩
theorem Fr.less {C : Nat} (h : Fr B g w w') (hC : C ≤ B) : Fr C g w w' := ⟨h.os, h.tape, h.output, h.size, fun i hi hne => h.block i (by omega) hne⟩
/-- Where g lies above. -/
theorem Fr.below {C : Nat} (h : Fr B g w w') (hC : C ≤ B) (hg : C ≤ g) : Below C w w' := ⟨h.os, h.tape, h.output, h.size, fun i hi => h.block i (by omega) (by omega)⟩
end

/-! ### bytes as strings -/
theorem strOf_back (x : List Int) (h : Byte x) : (x.map fun b => UInt8.ofNat b.toNat).map (fun u => (u.toNat : Int)) = x := by
  induction x with
  | nil => rfl
  | cons a x ih =>
    have ha := h a (by simp)
    have := ih (fun y hy => h y (by simp [hy]))
    simp only [List.map_cons, this]
    congr 1
    simp; omega
theorem strOf_beq (x y : List Int) (hx : Byte x) (hy : Byte y) : ((strOf x).toList == (strOf y).toList) = decide (x = y) := by
  unfold strOf
  rw [ByteArray.toList_mk, ByteArray.toList_mk, Bool.eq_iff_iff, beq_iff_eq, decide_eq_true_iff]
  constructor
  · intro h
    rw [← strOf_back x hx, h, strOf_back y hy]
  · rintro rfl; rfl
theorem strOf_size (b : List Int) : (strOf b).size = b.length := by simp [strOf, ByteArray.size]
theorem strOf_get (b : List Int) (hb : Byte b) (j : Nat) : ((strOf b).get! j).toNat = (b.getD j 0).toNat := by
  by_cases h : j < b.length
  · have hs : j < (strOf b).size := by rw [strOf_size]; exact h
    have e : (strOf b).get! j = UInt8.ofNat (b[j]).toNat := by
      simp [ByteArray.get!, strOf, h]
    rw [e, List.getD_eq_getElem?_getD, List.getElem?_eq_getElem h]
    have := hb b[j] (List.getElem_mem h)
    simp; omega
  · have e : (strOf b).get! j = default := by
      simp [ByteArray.get!, strOf, h]
    rw [e, List.getD_eq_getElem?_getD, List.getElem?_eq_none (by omega)]
    rfl
theorem strOf_extract (b : List Int) (i j : Nat) : (strOf b).extract i j = strOf ((b.take j).drop i) := by
  apply ByteArray.ext
  rw [ByteArray.data_extract]
  unfold strOf
  apply Array.ext'
  simp [List.extract_eq_take_drop, List.map_take, List.map_drop, List.drop_take]
end
/-- A number's bytes: at most f + 1 groups. -/
def encF : Nat → Nat → List Int
  | 0, n => [(n : Int)]
  | f + 1, n => if n < 128 then [(n : Int)] else ((128 + n % 128 : Nat) : Int) :: encF f (n / 128)
def enc (n : Nat) : List Int := encF 9 n
def encAll (zs : List Int) : List Int := zs.flatMap fun z => enc z.toNat

theorem encF_small (f n : Nat) (h : n < 128) : encF f n = [(n : Int)] := by cases f <;> simp [encF, h]
theorem encF_big (f n : Nat) (h : ¬ n < 128) : encF (f + 1) n = ((128 + n % 128 : Nat) : Int) :: encF f (n / 128) := by simp [encF, h]

theorem encF_len (f : Nat) : ∀ n, 1 ≤ (encF f n).length ∧ (encF f n).length ≤ f + 1 := by
  induction f with
  | zero => intro n; simp [encF]
  | succ f ih =>
    intro n
    by_cases h : n < 128
    · simp [encF, h]
    · rw [encF_big f n h]; have := ih (n / 128); simp; omega
theorem enc_len (n : Nat) : 1 ≤ (enc n).length ∧ (enc n).length ≤ 10 := encF_len 9 n
theorem encAll_len (zs : List Int) : (encAll zs).length ≤ 10 * zs.length := by
  induction zs with
  | nil => simp [encAll]
  | cons z zs ih =>
    have h := (enc_len z.toNat).2
    simp only [encAll, List.flatMap_cons, List.length_append, List.length_cons] at ih ⊢
    omega
theorem encAll_nil : encAll [] = [] := rfl
theorem encAll_cons (z : Int) (zs : List Int) : encAll (z :: zs) = enc z.toNat ++ encAll zs := by simp [encAll]
theorem encAll_append (a b : List Int) : encAll (a ++ b) = encAll a ++ encAll b := by simp [encAll]
theorem encAll_one (z : Int) : encAll [z] = enc z.toNat := by simp [encAll]

theorem encF_byte (f : Nat) : ∀ n, n < 128 ^ f * 256 → Byte (encF f n) := by
  induction f with
  | zero => intro n h x hx; simp [encF] at hx; subst hx; simp at h; omega
  | succ f ih =>
    intro n h
    by_cases hn : n < 128
    · rw [encF_small _ _ hn]; intro x hx; simp at hx; subst hx; omega
    · rw [encF_big f n hn]
      intro x hx
      rcases List.mem_cons.1 hx with h1 | h1
      · subst h1; omega
      · refine ih (n / 128) ?_ x h1
        rw [Nat.pow_succ] at h
        exact Nat.div_lt_of_lt_mul (by rw [Nat.mul_comm 128]; calc n < 128 ^ f * 128 * 256 := h
          _ = 128 ^ f * 256 * 128 := by rw [Nat.mul_right_comm])
theorem enc_byte (n : Nat) (h : n < 18446744073709551616) : Byte (enc n) := encF_byte 9 n (by
  have : (128 : Nat) ^ 9 * 256 = 2361183241434822606848 := by decide
  omega)
theorem encAll_byte (zs : List Int) (h : ∀ z ∈ zs, 0 ≤ z ∧ z < 18446744073709551616) : Byte (encAll zs) := by
  induction zs with
  | nil => intro x hx; simp [encAll] at hx
  | cons z zs ih =>
    rw [encAll_cons]
    have hz := h z (by simp)
    exact (enc_byte _ (by omega)).append (ih fun y hy => h y (by simp [hy]))

/-- What bytes tell from place i on, n being told already. -/
def rd : Nat → Nat → List Int → Int × Int × Int
  | _, _, [] => (0, 0, 4)
  | i, n, c :: r => if i = 9 ∧ 1 < c ∨ 0 < i ∧ c = 0 then (0, 0, 3) else
      if c < 128 then (((n + c.toNat % 128 * 128 ^ i : Nat) : Int), ((i + 1 : Nat) : Int), 0) else rd (i + 1) (n + c.toNat % 128 * 128 ^ i) r

theorem rd_enc (f : Nat) : ∀ (i m n : Nat) (r : List Int), i + f = 9 → n * 128 ^ i < 18446744073709551616 → (0 < i → 0 < n) →
    rd i m (encF f n ++ r) = (((m + n * 128 ^ i : Nat) : Int), ((i + (encF f n).length : Nat) : Int), 0) := by
  induction f with
  | zero =>
    intro i m n r hi hn hp
    obtain rfl : i = 9 := by omega
    have h9 : (128 : Nat) ^ 9 = 9223372036854775808 := by decide
    rw [h9] at hn
    have h2 : n < 2 := by omega
    simp only [encF, List.singleton_append, rd]
    have hp' := hp (by omega)
    rw [if_neg (by omega), if_pos (by omega)]
    have : (n : Int).toNat % 128 = n := by omega
    rw [this]
    simp
  | succ f ih =>
    intro i m n r hi hn hp
    by_cases hb : n < 128
    · rw [encF_small _ _ hb]
      simp only [List.singleton_append, rd]
      rw [if_neg (by omega), if_pos (by omega)]
      have : (n : Int).toNat % 128 = n := by omega
      rw [this]
      simp
    · rw [encF_big f n hb]
      simp only [List.cons_append, rd]
      rw [if_neg (by omega), if_neg (by omega)]
      have e1 : ((128 + n % 128 : Nat) : Int).toNat % 128 = n % 128 := by omega
      rw [e1, ih (i + 1) _ (n / 128) r (by omega) ?_ (by omega)]
      · have e2 : m + n % 128 * 128 ^ i + n / 128 * 128 ^ (i + 1) = m + n * 128 ^ i := by
          rw [Nat.pow_succ, Nat.add_assoc]
          congr 1
          have h := Nat.mod_add_div n 128
          calc n % 128 * 128 ^ i + n / 128 * (128 ^ i * 128) = (n % 128 + 128 * (n / 128)) * 128 ^ i := by
                rw [Nat.add_mul, Nat.mul_comm (128 ^ i) 128, ← Nat.mul_assoc, Nat.mul_comm (n / 128) 128]
            _ = n * 128 ^ i := by rw [h]
        rw [e2]
        simp only [List.length_cons, Prod.mk.injEq, true_and, and_true]
        omega
      · rw [Nat.pow_succ]
        have h1 : n / 128 * (128 ^ i * 128) ≤ n * 128 ^ i := by
          rw [Nat.mul_comm (128 ^ i) 128, ← Nat.mul_assoc]
          exact Nat.mul_le_mul_right _ (Nat.div_mul_le_self n 128)
        omega

theorem rd_of_enc (n : Nat) (r : List Int) (h : n < 18446744073709551616) : rd 0 0 (enc n ++ r) = ((n : Int), ((enc n).length : Int), 0) := by
  have := rd_enc 9 0 0 n r (by omega) (by simpa using h) (by omega)
  simpa [enc] using this

theorem room (i q d : Nat) (hi : i ≤ 8) (hd : d < 128) (h : q * 128 * 128 ^ i < 18446744073709551616) : (d + 128 * q) * 128 ^ i < 18446744073709551616 := by
  have hR : 128 ^ (i + 1) * 2 ^ (64 - 7 * (i + 1)) = 18446744073709551616 := by
    have : (128 : Nat) = 2 ^ 7 := by decide
    rw [this, ← Nat.pow_mul, ← Nat.pow_add, show 7 * (i + 1) + (64 - 7 * (i + 1)) = 64 from by omega]
  rw [Nat.pow_succ] at hR
  have hq : q < 2 ^ (64 - 7 * (i + 1)) := by
    refine Nat.lt_of_mul_lt_mul_left (a := 128 ^ i * 128) ?_
    rw [hR]
    calc 128 ^ i * 128 * q = q * 128 * 128 ^ i := by rw [Nat.mul_assoc, Nat.mul_comm]; rw [Nat.mul_comm 128 q]
      _ < _ := h
  calc (d + 128 * q) * 128 ^ i < (128 * (q + 1)) * 128 ^ i := Nat.mul_lt_mul_of_pos_right (by omega) (Nat.pow_pos (by omega))
    _ = 128 ^ i * 128 * (q + 1) := by rw [Nat.mul_comm, ← Nat.mul_assoc]
    _ ≤ 128 ^ i * 128 * 2 ^ (64 - 7 * (i + 1)) := Nat.mul_le_mul_left _ hq
    _ = _ := hR

/-- What was read has just these bytes. -/
theorem rd_back (l : List Int) : ∀ (i m : Nat) (N s : Int), i ≤ 9 → Byte l → rd i m l = (N, s, 0) →
    ∃ q k : Nat, N = ((m + q * 128 ^ i : Nat) : Int) ∧ s = ((i + k : Nat) : Int) ∧ encF (9 - i) q = l.take k ∧ (0 < i → 0 < q) ∧ q * 128 ^ i < 18446744073709551616 ∧ k ≤ l.length := by
  induction l with
  | nil => intro i m N s hi hb h; simp [rd] at h
  | cons c r ih =>
    intro i m N s hi hb h
    have hc := hb c (by simp)
    simp only [rd] at h
    by_cases h1 : i = 9 ∧ 1 < c ∨ 0 < i ∧ c = 0
    · rw [if_pos h1] at h; simp at h
    · rw [if_neg h1] at h
      by_cases h2 : c < 128
      · rw [if_pos h2] at h
        simp only [Prod.mk.injEq, and_true] at h
        have e : c.toNat % 128 = c.toNat := by omega
        refine ⟨c.toNat, 1, by rw [← h.1, e], by rw [← h.2], ?_, by omega, ?_, by simp⟩
        · rw [encF_small _ _ (by omega)]; simp; omega
        · rcases Nat.lt_or_ge i 9 with h9 | h9
          · have : (128 : Nat) ^ i ≤ 128 ^ 8 := Nat.pow_le_pow_right (by omega) (by omega)
            have e8 : (128 : Nat) ^ 8 = 72057594037927936 := by decide
            have : c.toNat * 128 ^ i ≤ 127 * 128 ^ 8 := Nat.mul_le_mul (by omega) this
            omega
          · obtain rfl : i = 9 := by omega
            have e9 : (128 : Nat) ^ 9 = 9223372036854775808 := by decide
            rw [e9]; omega
      · rw [if_neg h2] at h
        have hi9 : i < 9 := by omega
        obtain ⟨q, k, hN, hs, he, hp, hq, hk⟩ := ih (i + 1) _ N s (by omega) (fun x hx => hb x (by simp [hx])) h
        have hp' := hp (by omega)
        refine ⟨c.toNat % 128 + 128 * q, k + 1, ?_, by rw [hs]; congr 1; omega, ?_, by omega, ?_, by simpa using hk⟩
        · rw [hN, Nat.pow_succ, Nat.add_mul, Nat.add_assoc, Nat.mul_comm (128 ^ i) 128, ← Nat.mul_assoc, Nat.mul_comm q 128]
        · have e9 : 9 - i = (9 - (i + 1)) + 1 := by omega
          rw [e9, encF_big _ _ (by omega)]
          have d1 : (c.toNat % 128 + 128 * q) / 128 = q := by omega
          have d2 : ((128 + (c.toNat % 128 + 128 * q) % 128 : Nat) : Int) = c := by omega
          rw [d1, d2, he]; simp
        · rw [Nat.pow_succ, Nat.mul_comm (128 ^ i) 128, ← Nat.mul_assoc] at hq
          exact room i q _ (by omega) (by omega) hq

theorem rd_three (l : List Int) : ∀ i m, rd i m l = (0, 0, 3) ∨ rd i m l = (0, 0, 4) ∨ ∃ N s, rd i m l = (N, s, 0) := by
  induction l with
  | nil => intro i m; right; left; simp [rd]
  | cons c r ih =>
    intro i m
    simp only [rd]
    by_cases h1 : i = 9 ∧ 1 < c ∨ 0 < i ∧ c = 0
    · rw [if_pos h1]; exact .inl rfl
    · rw [if_neg h1]
      by_cases h2 : c < 128
      · rw [if_pos h2]; exact .inr (.inr ⟨_, _, rfl⟩)
      · rw [if_neg h2]; exact ih _ _
theorem rd_cases (xs : List Int) (hb : Byte xs) : rd 0 0 xs = (0, 0, 3) ∨ rd 0 0 xs = (0, 0, 4) ∨ ∃ N s : Nat, rd 0 0 xs = ((N : Int), (s : Int), 0) ∧ N < 18446744073709551616 ∧ s ≤ xs.length ∧ enc N = xs.take s := by
  rcases rd_three xs 0 0 with h | h | ⟨N, s, h⟩
  · exact .inl h
  · exact .inr (.inl h)
  · obtain ⟨q, k, hN, hs, he, _, hq, hk⟩ := rd_back xs 0 0 N s (by omega) hb h
    refine .inr (.inr ⟨q, k, ?_, by simpa using hq, hk, he⟩)
    rw [h, hN, hs]; simp

def nu_nAt (xs : List Int) (t : Nat) (E : Int) : Nat := if E = 0 then t + (rd 0 0 (xs.drop t)).2.1.toNat else t
def nEr (xs : List Int) (t : Nat) (E : Int) : Int := if E = 0 then (rd 0 0 (xs.drop t)).2.2 else E
def nVal (xs : List Int) (t : Nat) (E : Int) : Int := if E = 0 then (rd 0 0 (xs.drop t)).1 else 0
def nu_over (most v : Int) : Bool := decide (most < 0 ∨ most < v)
def uAt (xs : List Int) (t : Nat) (E most : Int) : Nat := if nEr xs t E = 0 ∧ nu_over most (nVal xs t E) = true then t else nu_nAt xs t E
def uEr (xs : List Int) (t : Nat) (E most er : Int) : Int := if nEr xs t E = 0 ∧ nu_over most (nVal xs t E) = true then er else nEr xs t E
def uVal (xs : List Int) (t : Nat) (E most : Int) : Int := if nEr xs t E = 0 ∧ nu_over most (nVal xs t E) = true then 0 else nVal xs t E

theorem byte_drop {xs : List Int} (h : Byte xs) (t : Nat) : Byte (xs.drop t) := fun x hx => h x (List.mem_of_mem_drop hx)

def fEr (E x : Int) : Int := if E = 0 then x else E
def dVal (xs : List Int) (t : Nat) (E : Int) : Int := if E = 0 ∧ t < xs.length then 3 else E

theorem uVal_bd (xs : List Int) (t : Nat) (E most : Int) (hb : Byte xs) (m1 : most ≤ 9223372036854775807) : 0 ≤ uVal xs t E most ∧ uVal xs t E most ≤ 9223372036854775807 := by
  unfold uVal nVal nEr
  by_cases hE : E = 0
  · subst hE
    rcases rd_cases (xs.drop t) (byte_drop hb t) with hr | hr | ⟨N, n, hr, hN, hn, _⟩
    · simp [hr]
    · simp [hr]
    · by_cases ho : most < 0 ∨ most < (N : Int)
      · simp [hr, nu_over, ho]
      · simp [hr, nu_over, ho]; omega
  · simp [hE]

theorem rd_some (xs : List Int) (t : Nat) (hb : Byte xs) : ∃ (N : Int) (n : Nat) (er : Int), rd 0 0 (xs.drop t) = (N, (n : Int), er) ∧ n ≤ xs.length - t := by
  rcases rd_cases (xs.drop t) (byte_drop hb t) with hr | hr | ⟨N, n, hr, _, hn, _⟩
  · exact ⟨0, 0, 3, hr, Nat.zero_le _⟩
  · exact ⟨0, 0, 4, hr, Nat.zero_le _⟩
  · exact ⟨N, n, 0, hr, by rwa [List.length_drop] at hn⟩

theorem nVal_bd (xs : List Int) (t : Nat) (E : Int) (hb : Byte xs) : 0 ≤ nVal xs t E ∧ nVal xs t E < 18446744073709551616 ∧ (nEr xs t E ≠ 0 → nVal xs t E = 0) := by
  unfold nVal nEr
  by_cases hE : E = 0
  · subst hE
    rcases rd_cases (xs.drop t) (byte_drop hb t) with hr | hr | ⟨N, n, hr, hN, hn, _⟩
    · simp [hr]
    · simp [hr]
    · simp [hr]; omega
  · simp [hE]
/-- Is a number a scalar? -/
def isSc (r : Int) : Bool := decide (0 ≤ r ∧ r ≤ 1114111 ∧ (r < 55296 ∨ 57343 < r))
/-- Does a number lie in one of the ranges of a list, two numbers each? -/
def inB (r : Int) : List Int → Bool
  | a :: b :: l => (decide (a ≤ r) && decide (r ≤ b)) || inB r l
  | _ => false
def marks : List Int := [768, 879, 8203, 8207, 8400, 8447, 65024, 65039, 65056, 65071]
def wides : List Int := [4352, 4447, 11904, 12350, 12353, 42191, 44032, 55203, 63744, 64255, 65072, 65135, 65280, 65376, 65504, 65510, 127744, 128591, 129280, 129535, 131072, 262141]
/-- A rune's width. -/
def wOf (r : Int) : Int :=
  if r < 32 ∨ inB r [127, 159] = true ∨ isSc r = false then -1 else if inB r marks = true then 0 else if inB r wides = true then 2 else 1
/-- .. without those that take no part. -/
def pos (r : Int) : Int := if 0 < wOf r then wOf r else 0
/-- A pen's three bytes. -/
structure Pn where
  f : Nat
  g : Nat
  b : Nat
deriving DecidableEq
def zeroP : Pn := ⟨0, 0, 0⟩
def rightN (p : Pn) : Bool := decide (p.f ≤ 31) && (decide (p.g ≤ 16) && decide (p.b ≤ 16))

/-- A cell: its rune, two marks, its width, its pen. -/
structure Cel where
  r : Int
  m : Int
  n : Int
  w : Nat
  p : Pn
deriving DecidableEq
def zeroC : Cel := ⟨0, 0, 0, 0, zeroP⟩
def blankC (p : Pn) : Cel := ⟨32, 0, 0, 1, p⟩
def restC (c : Cel) : Cel := ⟨0, 0, 0, 0, c.p⟩
def bearsC (c : Cel) : Bool := decide (c.w = 1 ∨ c.w = 2)
def marksC (m n : Int) : Bool := if m = 0 then decide (n = 0) else decide (wOf m = 0) && (decide (n = 0) || decide (wOf n = 0))
def rightC (c : Cel) : Bool :=
  rightN c.p && (if c.w = 0 then decide (c.r = 0 ∧ c.m = 0 ∧ c.n = 0) else if bearsC c = true then decide (wOf c.r = c.w) && marksC c.m c.n else false)
def runesC (c : Cel) : List Int := if bearsC c = true then [c.r] ++ (if c.m = 0 then [] else [c.m]) ++ (if c.n = 0 then [] else [c.n]) else []

theorem wOf_zero : wOf 0 = -1 := by decide
theorem wOf_32 : wOf 32 = 1 := by decide +kernel
/-! ### what is made of what is right is right -/
theorem right_pen {c : Cel} (h : rightC c = true) : rightN c.p = true := by
  unfold rightC at h; simp only [Bool.and_eq_true] at h; exact h.1
theorem right_rest {c : Cel} (h : rightC c = true) : rightC (restC c) = true := by
  have := right_pen h
  unfold rightC restC; simp [this]
theorem right_blank {p : Pn} (h : rightN p = true) : rightC (blankC p) = true := by
  unfold rightC blankC; simp [h, bearsC, wOf_32, marksC]
/-! ### a right cell's runes -/
/-! ### bits -/
/-! ### one parameter -/
def Pn.ok (p : Pn) : Prop := p.f < 256 ∧ p.g < 256 ∧ p.b < 256
/-! a right pen stays right -/
/-! ### the document's way: flag by flag, color by color -/
/-! ### numbers -/
def numN (p : Pn) : Int := if rightN p then p.f + 32 * p.g + 1024 * p.b else -1
def ofN (n : Int) : Pn × Bool :=
  if 0 ≤ n ∧ n % 1024 / 32 ≤ 16 ∧ n / 1024 ≤ 16 then (⟨(n % 32).toNat, (n % 1024 / 32).toNat, (n / 1024).toNat⟩, true) else (zeroP, false)
theorem ofN_numN (p : Pn) (h : rightN p = true) : ofN (numN p) = (p, true) := by
  have h' := h
  unfold rightN at h'
  simp only [Bool.and_eq_true, decide_eq_true_eq] at h'
  obtain ⟨h1, h2, h3⟩ := h'
  unfold numN ofN
  rw [if_pos h, if_pos (by omega)]
  obtain ⟨f, g, b⟩ := p
  simp only at h1 h2 h3 ⊢
  congr 2 <;> omega
theorem ofN_true (n : Int) (p : Pn) (h : ofN n = (p, true)) : rightN p = true ∧ numN p = n := by
  unfold ofN at h
  split at h
  · rename_i hc
    simp only [Prod.mk.injEq, and_true] at h
    subst h
    have : rightN ⟨(n % 32).toNat, (n % 1024 / 32).toNat, (n / 1024).toNat⟩ = true := by
      unfold rightN
      simp only [Bool.and_eq_true, decide_eq_true_eq]
      omega
    refine ⟨this, ?_⟩
    unfold numN
    rw [if_pos this]
    simp only
    omega
  · simp at h
/-- The cell at a place. -/
def cAt (l : List Cel) (i : Nat) : Cel := l.getD i zeroC
/-- The width at a place; 9 beyond the end. -/
def wAt (l : List Cel) (i : Nat) : Nat := ((l[i]?).map (·.w)).getD 9
/-- A line of n cells, by a rule. -/
def tab (n : Nat) (f : Nat → Cel) : List Cel := (List.range n).map f

theorem tab_len (n : Nat) (f : Nat → Cel) : (tab n f).length = n := by simp [tab]
theorem tab_get (n : Nat) (f : Nat → Cel) (i : Nat) (h : i < n) : (tab n f)[i]? = some (f i) := by simp [tab, h]
theorem tab_no (n : Nat) (f : Nat → Cel) (i : Nat) (h : n ≤ i) : (tab n f)[i]? = none := by simp [tab, h]
theorem tab_cAt (n : Nat) (f : Nat → Cel) (i : Nat) (h : i < n) : cAt (tab n f) i = f i := by
  unfold cAt; rw [List.getD_eq_getElem?_getD, tab_get n f i h]; rfl
theorem get_cAt (l : List Cel) (i : Nat) (h : i < l.length) : l[i]? = some (cAt l i) := by
  unfold cAt; rw [List.getD_eq_getElem?_getD, List.getElem?_eq_getElem h]; rfl
theorem tab_self (l : List Cel) : tab l.length (cAt l) = l := by
  apply List.ext_getElem?
  intro i
  by_cases h : i < l.length
  · rw [tab_get _ _ _ h, get_cAt l i h]
  · rw [tab_no _ _ _ (by omega), List.getElem?_eq_none (by omega)]
theorem tab_eq {n : Nat} {f g : Nat → Cel} (h : ∀ i, i < n → f i = g i) : tab n f = tab n g := by
  apply List.ext_getElem?
  intro i
  by_cases hi : i < n
  · rw [tab_get _ _ _ hi, tab_get _ _ _ hi, h i hi]
  · rw [tab_no _ _ _ (by omega), tab_no _ _ _ (by omega)]
theorem tab_is {l : List Cel} {n : Nat} {f : Nat → Cel} (hn : l.length = n) (h : ∀ i, i < n → cAt l i = f i) : l = tab n f := by
  subst hn; rw [← tab_eq h, tab_self]
theorem wAt_in (l : List Cel) (i : Nat) (h : i < l.length) : wAt l i = (cAt l i).w := by unfold wAt; rw [get_cAt l i h]; rfl
theorem wAt_out (l : List Cel) (i : Nat) (h : l.length ≤ i) : wAt l i = 9 := by unfold wAt; rw [List.getElem?_eq_none h]; rfl
theorem tab_set (n : Nat) (f : Nat → Cel) (k : Nat) (c : Cel) : (tab n f).set k c = tab n (fun i => if i = k then c else f i) := by
  apply List.ext_getElem?
  intro i
  rw [List.getElem?_set, tab_len]
  by_cases hi : i < n
  · rw [tab_get _ _ _ hi, tab_get _ _ _ hi]
    by_cases hk : k = i
    · subst hk; simp [hi]
    · simp [hk, Ne.symm hk]
  · rw [tab_no _ _ _ (by omega), tab_no _ _ _ (by omega)]
    by_cases hk : k = i
    · subst hk; simp [hi]
    · simp [hk]
/-- Is a half alone? -/
def aloneC (l : List Cel) (i : Nat) : Bool :=
  if wAt l i = 2 then decide (wAt l (i + 1) ≠ 0) else if wAt l i = 0 then decide (i = 0 ∨ wAt l (i - 1) ≠ 2) else false
def mendAt (l : List Cel) (i : Nat) : Cel := if aloneC l i = true then blankC (cAt l i).p else cAt l i
def mendC (l : List Cel) : List Cel := tab l.length (mendAt l)
theorem mend_len (l : List Cel) : (mendC l).length = l.length := tab_len _ _

def lenN (n : Int) : Nat := (min (max n 0) 512).toNat
def newC (n : Int) : List Cel := tab (lenN n) (fun _ => blankC zeroP)
def putTab (l : List Cel) (k : Nat) (c : Cel) : List Cel := tab l.length (fun i => if i = k then c else if i = k + 1 ∧ c.w = 2 then restC c else cAt l i)
def putOk (l : List Cel) (at_ : Int) (c : Cel) : Bool := decide (rightC c = true ∧ c.w ≠ 0 ∧ 0 ≤ at_ ∧ at_ + (c.w : Int) ≤ (l.length : Int))
def putC (l : List Cel) (at_ : Int) (c : Cel) : List Cel := if putOk l at_ c = true then mendC (putTab l at_.toNat c) else l
def fitTab (l : List Cel) (n : Int) : List Cel := tab (lenN n) (fun i => if i < l.length then cAt l i else blankC zeroP)
def fitC (l : List Cel) (n : Int) : List Cel := mendC (fitTab l n)
/-- Up to a place: right, no half alone, both halves of one pen. -/
def okAt (l : List Cel) (i : Nat) : Bool := rightC (cAt l i) && (!(aloneC l i) && (!(decide (wAt l i = 0)) || decide ((cAt l i).p = (cAt l (i - 1)).p)))
def rightL (l : List Cel) : Bool := decide (∀ i, i < l.length → okAt l i = true)
/-! ### mending in place -/
theorem mendAt_no (l : List Cel) (k : Nat) (h : aloneC l k = false) : mendAt l k = cAt l k := by unfold mendAt; simp [h]
theorem mend_cAt (l : List Cel) (i : Nat) (hi : i < l.length) : cAt (mendC l) i = mendAt l i := tab_cAt _ _ _ hi

/-! ### which lines are right: two ways -/
theorem okAt_iff (l : List Cel) (i : Nat) : okAt l i = true ↔ rightC (cAt l i) = true ∧ aloneC l i = false ∧ (wAt l i = 0 → (cAt l i).p = (cAt l (i - 1)).p) := by
  unfold okAt
  simp only [Bool.and_eq_true, Bool.or_eq_true, Bool.not_eq_true', decide_eq_true_iff, decide_eq_false_iff_not]
  constructor
  · rintro ⟨h1, h2, h3⟩; exact ⟨h1, h2, fun h => by rcases h3 with q | q; exact absurd h q; exact q⟩
  · rintro ⟨h1, h2, h3⟩; exact ⟨h1, h2, by by_cases h : wAt l i = 0; exact .inr (h3 h); exact .inl h⟩
theorem alone_2 {l : List Cel} {i : Nat} (h : wAt l i = 2) (ha : aloneC l i = false) : wAt l (i + 1) = 0 := by
  unfold aloneC at ha; rw [if_pos h] at ha; simpa using ha
theorem alone_0 {l : List Cel} {i : Nat} (h : wAt l i = 0) (ha : aloneC l i = false) : i ≠ 0 ∧ wAt l (i - 1) = 2 := by
  unfold aloneC at ha; rw [if_neg (by omega), if_pos h] at ha; simpa using ha
theorem wAt_lt {l : List Cel} {i : Nat} (h : wAt l i ≠ 9) : i < l.length := by
  by_cases q : i < l.length
  · exact q
  · exact absurd (wAt_out l i (by omega)) h
theorem right_w {c : Cel} (h : rightC c = true) : c.w = 0 ∨ c.w = 1 ∨ c.w = 2 := by
  unfold rightC at h
  simp only [Bool.and_eq_true] at h
  by_cases h0 : c.w = 0
  · exact .inl h0
  · rw [if_neg h0] at h
    by_cases hb : bearsC c = true
    · unfold bearsC at hb; simp at hb; omega
    · rw [if_neg hb] at h; cases h.2
theorem rightL_iff (l : List Cel) : rightL l = true ↔ ∀ i, i < l.length → okAt l i = true := by unfold rightL; rw [decide_eq_true_iff]
end Go.Proofs.YtcbdokocnjoilaaGreatDoor
