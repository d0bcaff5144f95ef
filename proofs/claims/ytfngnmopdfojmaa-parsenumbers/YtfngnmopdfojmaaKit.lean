/-
  Words and laws over memory, of no program: slices of numbers that are read, rows of numbers that a call makes and appends to, bytes as strings.
-/
import Derived.WalkKit
import Derived.WalkSpells
import Derived.ProofKit
import Derived.OpenShut
import Derived.Maps.AppendAt
import Derived.Deep.Draws
import Derived.Deep.QuietTactic
import Derived.BigQuiet
import Derived.Laws.AppendOwnNone
import Derived.Laws.BytesString
import Derived.Laws.IdiomStrings
namespace Go.Proofs.Ytfngnmopdfojmaa
set_option maxRecDepth 100000
open Go.ChangeShapes Go.WideShapes Go.ChangeAt Go.RowKit

theorem hide {p : Prop} (h : p) : Hid p := h
theorem ret_int {k : IntKind} {a b : Int} (h : a = b) : Ending.returned (.int k a) = .returned (.int k b) := by rw [h]

/-- A slice of numbers: its cells hold zs, wherever it lies; of an empty one nothing is asked. -/
def Ints (k : IntKind) (w : World) (a : Option Addr) (zs : List Int) : Prop :=
  zs = [] ∨ ∃ b off, a = some ⟨b, off, none⟩ ∧ ∀ i, i < zs.length → w.cell? ⟨b, off + i, none⟩ = some (.int k (zs.getD i 0))

section
variable {k : IntKind} {w w' : World} {a : Option Addr} {zs : List Int}
theorem Ints.nil : Ints k w a [] := .inl rfl
theorem Ints.at (h : Ints k w a zs) {i : Nat} (hi : i < zs.length) :
    ∃ b off, a = some ⟨b, off, none⟩ ∧ w.cell? ⟨b, off + i, none⟩ = some (.int k (zs.getD i 0)) ∧ b < w.heap.size := by
  rcases h with h | ⟨b, off, ha, hc⟩
  · subst h; simp at hi
  · exact ⟨b, off, ha, hc i hi, block_lt_of_cell (hc i hi)⟩
theorem Ints.keep (h : Ints k w a zs) (hk : ∀ p : Addr, p.block < w.heap.size → w'.cell? p = w.cell? p) : Ints k w' a zs := by
  rcases h with h | ⟨b, off, ha, hc⟩
  · exact .inl h
  · exact .inr ⟨b, off, ha, fun i hi => (hk _ (block_lt_of_cell (hc i hi))).trans (hc i hi)⟩
theorem Ints.below (h : Ints k w a zs) (hb : Below w.heap.size w w') : Ints k w' a zs := h.keep fun _ hp => hb.cell hp
theorem Ints.alloc (h : Ints k w a zs) (o : Obj) : Ints k (w.alloc o) a zs := h.keep fun p hp => World.cell?_alloc_lt w o p hp
theorem Ints.drewN (h : Ints k w a zs) (n : Nat) : Ints k (w.drewN n) a zs := h
theorem Ints.drew (h : Ints k w a zs) : Ints k w.drew a zs := h
theorem Ints.take (h : Ints k w a zs) (n : Nat) : Ints k w a (zs.take n) := by
  rcases h with h | ⟨b, off, ha, hc⟩
  · exact .inl (by simp [h])
  · refine .inr ⟨b, off, ha, fun i hi => ?_⟩
    rw [List.length_take] at hi
    rw [hc i (by omega)]
    simp [show i < n by omega]
theorem Ints.drop (h : Ints k w a zs) (n : Nat) : Ints k w (a.map (·.add n)) (zs.drop n) := by
  rcases h with h | ⟨b, off, ha, hc⟩
  · exact .inl (by simp [h])
  · refine .inr ⟨b, off + n, ?_, fun i hi => ?_⟩
    · subst ha; simp only [Option.map_some, Addr.add]; split <;> simp_all
    · rw [List.length_drop] at hi
      rw [show off + n + i = off + (n + i) by omega, hc (n + i) (by omega)]
      simp [List.getElem?_drop]
theorem Ints.cut (h : Ints k w a zs) (n cap : Nat) (hc : zs.length ≤ cap) : Ints k w (if cap = n then a else a.map (·.add n)) (zs.drop n) := by
  by_cases e : cap = n
  · rw [if_pos e]; exact .inl (List.drop_eq_nil_of_le (by omega))
  · rw [if_neg e]; exact h.drop n
end

/-- A block that the call has just made, read as numbers. -/
theorem Ints.new (k : IntKind) (w : World) (t : TypeId) (zs : List Int) : Ints k (w.alloc (.cells (zs.map (Value.int k)).toArray t)) (some ⟨w.heap.size, 0, none⟩) zs := by
  refine .inr ⟨_, _, rfl, fun i hi => ?_⟩
  rw [Nat.zero_add, World.cell?_alloc_at (w := w) _ t _ i rfl]
  simp [List.getElem?_eq_getElem hi]

/-- What the loaded program's table says of a slice type S over numbers of type e. -/
structure Elem (P : Program) (S e : TypeId) (k : IntKind) (bytes : Nat) : Prop where
  under : P.underlying S = some (.slice e)
  info : (P.info? e).map (fun i => (i.zero, i.size, i.bytes)) = some (some (.int k 0), 1, bytes)

/-- A row of numbers of the call's own (blocks from B on), all that lay below B being as it was. -/
structure Own (e : TypeId) (k : IntKind) (B : Nat) (w wr : World) (v : Value) (bs : List Int) : Prop where
  own : wr.ownsRow B e 1 v bs.length (bs.map (Value.int k))
  bel : Below B w wr
  le : B ≤ wr.heap.size

theorem own_ge {w : World} {B : Nat} {e : TypeId} {s n : Nat} {v : Value} {xs : List Value} (h : w.ownsRow B e s v n xs) : ∀ g, v.ownBlock = some g → B ≤ g := fun g hg => (h.lt g hg).1

section
variable {e : TypeId} {k : IntKind} {B : Nat} {w wr : World} {v : Value} {bs : List Int}
theorem Own.start (hB : B ≤ w.heap.size) : Own e k B w w (.slice none 0 0) [] := ⟨World.ownsRow_nil _ _ _ _, Below.refl _ _, hB⟩
/-- A literal without elements, just made. -/
theorem Own.empty (w : World) (e : TypeId) (k : IntKind) : Own e k w.heap.size w (w.alloc (.cells #[] e)) (.slice (some ⟨w.heap.size, 0, none⟩) 0 0) [] :=
  ⟨⟨by simp, .inr ⟨w.heap.size, 0, #[], rfl, Nat.le_refl _, heap_alloc_new w _, Nat.le_refl _, Nat.zero_le _, rfl, rfl⟩⟩, (Below.refl _ _).alloc (Nat.le_refl _) _, by simp⟩
/-- As a slice that is read. -/
theorem Own.form (h : Own e k B w wr v bs) : ∃ A cap, v = .slice A bs.length cap ∧ Ints k wr A bs ∧ bs.length ≤ cap ∧ (A = none → cap = 0) := by
  rcases h.own.2 with ⟨rfl, h0⟩ | ⟨g, cap, cur, rfl, _, _, hc, _, _, _⟩
  · have : bs = [] := List.eq_nil_of_length_eq_zero h0
    subst this
    exact ⟨none, 0, rfl, .nil, Nat.le_refl _, fun _ => rfl⟩
  · refine ⟨_, cap, rfl, .inr ⟨g, 0, rfl, fun i hi => ?_⟩, hc, fun h => by cases h⟩
    rw [Nat.zero_add, h.own.cellAt i (by omega)]
    simp [List.getElem?_eq_getElem hi]
theorem Own.later {w1 : World} (h : Own e k B w wr v bs) (hb : Below wr.heap.size wr w1) : Own e k B w w1 v bs := by
  refine ⟨⟨h.own.1, ?_⟩, h.bel.trans (hb.mono h.le), Nat.le_trans h.le hb.size⟩
  rcases h.own.2 with h0 | ⟨g, cap, cur, hv, hB, hh, h1⟩
  · exact .inl h0
  · refine .inr ⟨g, cap, cur, hv, hB, ?_, h1⟩
    rw [hb.block g (Array.getElem?_eq_some_iff.1 hh).1, hh]
theorem Own.alloc (h : Own e k B w wr v bs) (o : Obj) : Own e k B w (wr.alloc o) v bs := ⟨h.own.alloc o, h.bel.alloc h.le o, by have := h.le; simp; omega⟩
theorem Own.grown {w1 : World} {v' : Value} {ns : List Int} (h : Own e k B w wr v bs) (h1 : w1.ownsRow B e 1 v' (bs.length + ns.length) (bs.map (Value.int k) ++ ns.map (Value.int k)))
    (hg : wr.grownBy w1 v.ownBlock) : Own e k B w w1 v' (bs ++ ns) :=
  ⟨by simpa using h1, h.bel.grown hg h.le (own_ge h.own), Nat.le_trans h.le hg.size⟩
end

theorem oneCells (k : IntKind) (ns : List Int) : ∀ u ∈ ns.map (Value.int k), u.oneCell' = true := by
  intro u hu
  obtain ⟨x, _, rfl⟩ := List.mem_map.1 hu
  rfl

/-- An operation that is wanted. -/
theorem wpList_want {P : Program} {ops : Array Oper} {rest : List Oper} {o : Oper} {a : Act} {w : World} {Q : Exit → Act → World → Prop} (hw : Region.wanted o (yielded ops a.tmps) = true)
    (h : ∀ K : Act → World → Prop, (∀ a w, wpList P ops Q rest a w → K a w) → o.wp P a w K Q) : wpList P ops Q (o :: rest) a w :=
  wpList_step fun K hK => by rw [if_pos hw]; exact h K hK

/-- An operation whose value is known. -/
theorem wpList_val {P : Program} {ops : Array Oper} {rest : List Oper} {o : Oper} {a : Act} {w : World} {Q : Exit → Act → World → Prop} {v : Value} (hw : Region.wanted o (yielded ops a.tmps) = true)
    (hrun : (execOp a.eval o).run P w = .ok (.value v) w) (h : wpList P ops Q rest (a.put o.dst v) w) : wpList P ops Q (o :: rest) a w :=
  wpList_want hw fun K hK => by
    unfold Oper.wp
    rw [hrun]
    exact hK _ _ h

theorem exec_binop {P : Program} {w : World} {ρ : Operand → Value} {o : Oper} {op : BinOp} {t u : TypeId} {x y : Operand} {v1 v2 v : Value} (ho : o.op = .binOp op t x y u) (hop : eqGuard op t x y v1 v2 = pure ())
    (h1 : ρ x = v1) (h2 : ρ y = v2) (h : (binOp op t v1 v2).run P w = .ok v w) : (execOp ρ o).run P w = .ok (.value v) w := by
  simp only [execOp, ho, h1, h2, hop, Sem.run_bind, Sem.run_pure, h, Result.andThen]

/-- 'x % y' on numbers, its value under a name. -/
theorem run_rem_nat {P : Program} (w : World) (t : TypeId) (k : IntKind) (C : Int) (L R : Nat) (hL : 0 < L) (h : C.tmod (L : Int) = (R : Int)) :
    (binOp .rem t (.int k C) (.int k (L : Int))).run P w = .ok (.int k (R : Int)) w := by
  have : ¬ (L : Int) = 0 := by omega
  simp only [binOp_rem, Op.intDiv, this, if_false, h]
  rfl

/-- 'append(row, x)', x in a block of its own. -/
theorem wpList_push {P : Program} {S e : TypeId} {k : IntKind} {bytes : Nat} (E : Elem P S e k bytes) {ops : Array Oper} {rest : List Oper} {o : Oper} {a : Act} {Q : Exit → Act → World → Prop} {B : Nat} {w wr : World} {v : Value} {bs : List Int} {x : Int}
    (hgd : Region.wanted o (yielded ops a.tmps) = true) (s y : Operand) (ho : o.op = .call { callee := .builtin .append, args := #[s, y], argTypes := #[S, S] })
    (hs : a.eval s = v) (hy : a.eval y = .slice (some ⟨wr.heap.size, 0, none⟩) 1 1) (hown : Own e k B w wr v bs) (hlen : bs.length ≤ 1000000) (hby : bytes ≤ 1000)
    (h : ∀ v' w1, Own e k B w w1 v' (bs ++ [x]) → wpList P ops Q rest (a.put o.dst v') w1) : wpList P ops Q (o :: rest) a (wr.alloc (.cells #[.int k x] e)) := by
  obtain ⟨i0, hi, hz0, hz1, hz2⟩ := info_parts E.info
  have hb : (bs.length + 1) * bytes ≤ 1000001 * 1000 := Nat.mul_le_mul (by omega) hby
  refine wpList_want hgd fun K hK => ?_
  refine wp_append_own _ s y S ho B e i0 (.int k 0) 1 bytes E.under hi hz0 hz1 hz2 rfl (by decide) v bs.length _ hs (hown.own.alloc _) ⟨wr.heap.size, 0, none⟩ 1 1 [.int k x] hy rfl (cell_one_new _ _ _) (oneCells k [x])
    (by unfold maxLen; omega) (by omega) (by have := hown.le; simp; omega) ?_
  intro v' w1 h1 hg _
  exact hK _ _ (h v' w1 ((hown.alloc _).grown (ns := [x]) h1 hg))

/-- 'append(row, src...)', src whatever. -/
theorem wpList_cat {P : Program} {S e : TypeId} {k : IntKind} {bytes : Nat} (E : Elem P S e k bytes) {ops : Array Oper} {rest : List Oper} {o : Oper} {a : Act} {Q : Exit → Act → World → Prop} {B : Nat} {w wr : World} {v : Value} {bs ns : List Int} {A : Option Addr} {n c : Nat}
    (hgd : Region.wanted o (yielded ops a.tmps) = true) (s y : Operand) (ho : o.op = .call { callee := .builtin .append, args := #[s, y], argTypes := #[S, S] })
    (hs : a.eval s = v) (hy : a.eval y = .slice A n c) (hown : Own e k B w wr v bs) (hns : Ints k wr A ns) (hn : ns.length = n) (hc : A = none → c = 0) (hlen : bs.length + n ≤ 1000000) (hby : bytes ≤ 1000)
    (h : ∀ v' w1, Own e k B w w1 v' (bs ++ ns) → wpList P ops Q rest (a.put o.dst v') w1) : wpList P ops Q (o :: rest) a wr := by
  subst hn
  obtain ⟨i0, hi, hz0, hz1, hz2⟩ := info_parts E.info
  have hb : (bs.length + ns.length) * bytes ≤ 1000000 * 1000 := Nat.mul_le_mul hlen hby
  refine wpList_want hgd fun K hK => ?_
  cases A with
  | none =>
    have hn : ns = [] := by
      rcases hns with h | ⟨_, _, h, _⟩
      · exact h
      · cases h
    subst hn
    obtain rfl : c = 0 := hc rfl
    have hrun := run_append_owned_none (P := P) (w := wr) B S o.type e i0 1 E.under hi v bs.length _ hown.own
    unfold Oper.wp
    simp [execOp, ho, resolve, invoke, builtin, hs, hy, hrun, Result.andThen]
    exact hK _ _ (h v wr (by simpa using hown))
  | some ad =>
    refine wp_append_own _ s y S ho B e i0 (.int k 0) 1 bytes E.under hi hz0 hz1 hz2 rfl (by decide) v bs.length _ hs hown.own ad ns.length c (ns.map (Value.int k)) hy (by simp) ?_ (oneCells k ns)
      (by unfold maxLen; omega) (by omega) hown.le ?_
    · intro j u hu
      have hj : j < ns.length := by have := (List.getElem?_eq_some_iff.1 hu).1; simpa using this
      obtain ⟨b, off, e1, hcell, _⟩ := hns.at hj
      cases e1
      have : (⟨b, off, none⟩ : Addr).add j = ⟨b, off + j, none⟩ := by unfold Addr.add; split <;> simp_all
      rw [this, hcell]
      simp [List.getElem?_eq_getElem hj] at hu ⊢
      exact hu
    · intro v' w1 h1 hg _
      exact hK _ _ (h v' w1 (hown.grown h1 hg))

/-- Bytes as a string. -/
def strOf (bs : List Int) : ByteArray := ⟨(bs.map fun b => UInt8.ofNat b.toNat).toArray⟩

theorem run_strOf {P : Program} (w : World) (S T e : TypeId) (hs : P.underlying S = some (.slice e)) (he : P.underlying e = some (.int .u8)) (hd : P.underlying T = some .string) (A : Option Addr) (c : Nat) (bs : List Int)
    (h : Ints .u8 w A bs) (hb : ∀ x ∈ bs, 0 ≤ x ∧ x ≤ 255) : (convert S T (.slice A bs.length c)).run P w = .ok (.string (strOf bs)) w := by
  cases A with
  | none =>
    have hn : bs = [] := by
      rcases h with h | ⟨_, _, h, _⟩
      · exact h
      · cases h
    subst hn
    rw [run_convert_bytes_string w S T e none _ c hs he hd]
    rfl
  | some ad =>
    have hl : bs.length = (bs.map fun b => UInt8.ofNat b.toNat).length := by simp
    rw [hl]
    refine run_convert_bytes_back w S T e ad c _ hs he hd ?_
    intro j hj
    have hj' : j < bs.length := by simpa using hj
    obtain ⟨b, off, e1, hcell, _⟩ := h.at hj'
    cases e1
    have : (⟨b, off, none⟩ : Addr).add j = ⟨b, off + j, none⟩ := by unfold Addr.add; split <;> simp_all
    rw [this, hcell]
    have hm : bs[j] ∈ bs := List.getElem_mem hj'
    have := hb _ hm
    simp [List.getElem?_eq_getElem hj']
    omega
end Go.Proofs.Ytfngnmopdfojmaa
