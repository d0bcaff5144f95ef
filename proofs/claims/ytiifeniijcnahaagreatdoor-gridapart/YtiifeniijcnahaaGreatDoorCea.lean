/-
  Plain mathematics of layer 5 (cell): what is made of runes, marks and pens, which cells are right, their runes. No Go text, no program.
  Cells and pens compared whole, as the walk meets it.
  Contracts of the small functions of layer 5: blanks, right halves, another pen, a cell as the document's, which pens are right, which cells bear a rune.
  Contracts: the cell of a rune (both), a cell with a mark more (both).
  Contracts: a cell with a mark more (both).
  Contracts: are marks as they may be: the closure, the library's search with it, and the program's.
  Contract: a cell with a mark more, by the document.
-/
import Derived.Test.YtiifeniijcnahaaGreatDoorWid
import Derived.Test.YtiifeniijcnahaaGreatDoorChecked
import Derived.Test.YtiifeniijcnahaaGreatDoorGen
import Derived.Laws.StructEq
import Derived.ChangeKeysEq
import Derived.Lib.MinMax
namespace Go.Proofs.YtiifeniijcnahaaGreatDoor
set_option maxRecDepth 100000
set_option linter.unusedVariables false

/-- A pen's three bytes. -/
structure Pn where
  f : Nat
  g : Nat
  b : Nat
deriving DecidableEq
def zeroP : Pn := ⟨0, 0, 0⟩
def rightN (p : Pn) : Bool := decide (p.f ≤ 31) && (decide (p.g ≤ 16) && decide (p.b ≤ 16))

/-- A cell: its rune, two marks, its width, its pen. -/
structure Cel where
  r : Int
  m : Int
  n : Int
  w : Nat
  p : Pn
deriving DecidableEq
def zeroC : Cel := ⟨0, 0, 0, 0, zeroP⟩
def blankC (p : Pn) : Cel := ⟨32, 0, 0, 1, p⟩
def restC (c : Cel) : Cel := ⟨0, 0, 0, 0, c.p⟩
def withC (c : Cel) (p : Pn) : Cel := { c with p := p }
def ofC (r : Int) (p : Pn) : Cel × Bool := if wOf r = 1 then (⟨r, 0, 0, 1, p⟩, true) else if wOf r = 2 then (⟨r, 0, 0, 2, p⟩, true) else (zeroC, false)
def bearsC (c : Cel) : Bool := decide (c.w = 1 ∨ c.w = 2)
def markC (c : Cel) (r : Int) : Cel × Bool :=
  if wOf r = 0 ∧ bearsC c = true then (if c.m = 0 then ({ c with m := r }, true) else if c.n = 0 then ({ c with n := r }, true) else (c, false)) else (c, false)
def marksC (m n : Int) : Bool := if m = 0 then decide (n = 0) else decide (wOf m = 0) && (decide (n = 0) || decide (wOf n = 0))
def rightC (c : Cel) : Bool :=
  rightN c.p && (if c.w = 0 then decide (c.r = 0 ∧ c.m = 0 ∧ c.n = 0) else if bearsC c = true then decide (wOf c.r = c.w) && marksC c.m c.n else false)
def alikeC (a b : Cel) : Bool := decide (a.r = b.r ∧ a.m = b.m ∧ a.n = b.n ∧ a.w = b.w)
def runesC (c : Cel) : List Int := if bearsC c = true then [c.r] ++ (if c.m = 0 then [] else [c.m]) ++ (if c.n = 0 then [] else [c.n]) else []

theorem wOf_zero : wOf 0 = -1 := by decide
theorem wOf_32 : wOf 32 = 1 := by decide +kernel
theorem wOf_a : wOf 97 = 1 := by decide +kernel
theorem wOf_acute : wOf 769 = 0 := by decide +kernel
theorem wOf_hira : wOf 12354 = 2 := by decide +kernel

/-! ### what is made of what is right is right -/
theorem right_pen {c : Cel} (h : rightC c = true) : rightN c.p = true := by
  unfold rightC at h; simp only [Bool.and_eq_true] at h; exact h.1
theorem right_rest {c : Cel} (h : rightC c = true) : rightC (restC c) = true := by
  have := right_pen h
  unfold rightC restC; simp [this]
theorem right_blank {p : Pn} (h : rightN p = true) : rightC (blankC p) = true := by
  unfold rightC blankC; simp [h, bearsC, wOf_32, marksC]
theorem right_with {c : Cel} {p : Pn} (h : rightC c = true) (hp : rightN p = true) : rightC (withC c p) = true := by
  unfold rightC at h ⊢; simp only [Bool.and_eq_true] at h ⊢; exact ⟨hp, h.2⟩
theorem right_of {r : Int} {p : Pn} (hp : rightN p = true) (h : (ofC r p).2 = true) : rightC (ofC r p).1 = true := by
  unfold ofC at h ⊢
  by_cases h1 : wOf r = 1
  · rw [if_pos h1]; unfold rightC; simp [hp, bearsC, h1, marksC]
  · rw [if_neg h1] at h ⊢
    by_cases h2 : wOf r = 2
    · rw [if_pos h2]; unfold rightC; simp [hp, bearsC, h2, marksC]
    · rw [if_neg h2] at h; cases h
theorem mark_ne {r : Int} (h : wOf r = 0) : r ≠ 0 := by rintro rfl; rw [wOf_zero] at h; cases h
theorem right_mark {c : Cel} {r : Int} (h : rightC c = true) : rightC (markC c r).1 = true := by
  unfold markC
  by_cases h1 : wOf r = 0 ∧ bearsC c = true
  · rw [if_pos h1]
    obtain ⟨h1, h2⟩ := h1
    have h0 : c.w ≠ 0 := by intro q; unfold bearsC at h2; simp [q] at h2
    unfold rightC at h
    simp only [Bool.and_eq_true, if_neg h0, if_pos h2] at h
    obtain ⟨hp, hw, hm⟩ := h
    have hn := mark_ne h1
    by_cases hm0 : c.m = 0
    · rw [if_pos hm0]
      have hn0 : c.n = 0 := by unfold marksC at hm; simpa [hm0] using hm
      unfold rightC
      simp only [Bool.and_eq_true, if_neg h0]
      refine ⟨hp, ?_⟩
      refine (if_pos (show bearsC _ = true from h2)).trans ?_
      simp only [Bool.and_eq_true]
      refine ⟨hw, ?_⟩
      unfold marksC; simp [hn, h1, hn0]
    · rw [if_neg hm0]
      by_cases hn0 : c.n = 0
      · rw [if_pos hn0]
        unfold rightC
        simp only [Bool.and_eq_true, if_neg h0]
        refine ⟨hp, ?_⟩
        refine (if_pos (show bearsC _ = true from h2)).trans ?_
        simp only [Bool.and_eq_true]
        refine ⟨hw, ?_⟩
        unfold marksC at hm ⊢
        simp only [hm0, if_false, Bool.and_eq_true, decide_eq_true_iff] at hm ⊢
        exact ⟨hm.1, by simp [h1]⟩
      · rw [if_neg hn0]
        unfold rightC
        simp only [Bool.and_eq_true, if_neg h0, if_pos h2]
        exact ⟨hp, hw, hm⟩
  · rw [if_neg h1]; exact h

/-! ### a right cell's runes -/
theorem runes_len (c : Cel) : (runesC c).length ≤ 3 := by
  unfold runesC; split
  · split <;> split <;> simp
  · simp
theorem runes_half {c : Cel} (h : c.w = 0) : runesC c = [] := by unfold runesC bearsC; simp [h]
theorem runes_bears {c : Cel} (h : rightC c = true) (h0 : c.w ≠ 0) : tot (runesC c) = c.w ∧ (clus (runesC c)).length = 1 := by
  unfold rightC at h
  simp only [Bool.and_eq_true, if_neg h0] at h
  obtain ⟨hp, h⟩ := h
  by_cases hb : bearsC c = true
  · rw [if_pos hb] at h
    simp only [Bool.and_eq_true, decide_eq_true_iff] at h
    obtain ⟨hw, hm⟩ := h
    have hpos : 1 ≤ wOf c.r := by unfold bearsC at hb; simp at hb; omega
    have hpr : pos c.r = c.w := by unfold pos; rw [if_pos (by omega)]; exact hw
    have key : ∀ l : List Int, (∀ x ∈ l, wOf x = 0) → tot (c.r :: l) = c.w ∧ (clus (c.r :: l)).length = 1 := by
      intro l hl
      have t0 : tot l = 0 := by
        clear hm
        induction l with
        | nil => rfl
        | cons x l ih =>
          have hx := hl x (by simp)
          have := ih (fun y hy => hl y (by simp [hy]))
          simp [tot, pos, hx, this]
      have c0 : clus l = [] := by
        clear hm t0
        induction l with
        | nil => rfl
        | cons x l ih =>
          have hx := hl x (by simp)
          have := ih (fun y hy => hl y (by simp [hy]))
          unfold clus; rw [if_pos (by omega)]; exact this
      refine ⟨by simp [tot, hpr, t0], ?_⟩
      unfold clus
      rw [if_neg (by omega), c0]
      rfl
    unfold runesC
    rw [if_pos hb]
    unfold marksC at hm
    by_cases hm0 : c.m = 0
    · have hn0 : c.n = 0 := by simpa [hm0] using hm
      simp only [hm0, hn0, if_true, List.append_nil]
      exact key [] (by simp)
    · rw [if_neg hm0] at hm
      simp only [Bool.and_eq_true, Bool.or_eq_true, decide_eq_true_iff] at hm
      by_cases hn0 : c.n = 0
      · simp only [hm0, hn0, if_true, if_false, List.append_nil]
        exact key [c.m] (by simp [hm.1])
      · simp only [hm0, hn0, if_false]
        have hn : wOf c.n = 0 := by rcases hm.2 with q | q; exact absurd q hn0; exact q
        exact key [c.m, c.n] (by simp [hm.1, hn])
  · rw [if_neg hb] at h; cases h
end Go.Proofs.YtiifeniijcnahaaGreatDoor

namespace Go.Proofs.YtiifeniijcnahaaGreatDoor
set_option maxRecDepth 100000
open Go.ChangeShapes Go.WideShapes Go.ChangeAt Go.RowKit
set_option linter.unusedVariables false

def eqP (f g b f' g' b' : Int) : Bool := (f == f') && ((g == g') && (b == b'))
def eqM (m n m' n' : Int) : Bool := (m == m') && (n == n')
def eqC (r m n w f g b r' m' n' w' f' g' b' : Int) : Bool := (r == r') && (eqM m n m' n' && ((w == w') && eqP f g b f' g' b'))
def fieldsAre (P : Program) (t : TypeId) (l : List (Bool × TypeId × Nat)) : Prop := (P.fieldsOf t).toList.map (fun f => (f.name == "_", f.type, f.offset)) = l
theorem fieldsPen : fieldsAre Tryz.prog 38 [(false, 5, 0), (false, 5, 1), (false, 5, 2)] := by unfold fieldsAre; kernel_rfl
theorem fieldsP : fieldsAre Tryz.prog 50 [(false, 5, 0), (false, 5, 1), (false, 5, 2)] := by unfold fieldsAre; kernel_rfl
theorem fieldsCell : fieldsAre Tryz.prog 40 [(false, 21, 0), (false, 36, 1), (false, 5, 3), (false, 38, 4)] := by unfold fieldsAre; kernel_rfl
theorem fieldsC : fieldsAre Tryz.prog 52 [(false, 3, 0), (false, 49, 1), (false, 5, 3), (false, 50, 4)] := by unfold fieldsAre; kernel_rfl

theorem part5 (xs : Array Value) (i : Nat) (x : Int) (h : xs[i]? = some (.int .u8 x)) (w : World) : (part 5 xs i).run Tryz.prog w = .ok (.int .u8 x) w := by
  unfold part
  simp [go_sem, h]
theorem part21 (xs : Array Value) (i : Nat) (x : Int) (h : xs[i]? = some (.int .i32 x)) (w : World) : (part 21 xs i).run Tryz.prog w = .ok (.int .i32 x) w := by
  unfold part
  simp [go_sem, h]
theorem part3 (xs : Array Value) (i : Nat) (x : Int) (h : xs[i]? = some (.int .i64 x)) (w : World) : (part 3 xs i).run Tryz.prog w = .ok (.int .i64 x) w := by
  unfold part
  simp [go_sem, h]
theorem equalP (t : TypeId) (ht : Tryz.prog.underlying t = some (.struct (Tryz.prog.fieldsOf t))) (hp : Tryz.prog.stoodInHeld t = false) (h3 : fieldsAre Tryz.prog t [(false, 5, 0), (false, 5, 1), (false, 5, 2)]) (d : Nat) (w : World) (f g b f' g' b' : Int) :
    (Op.equalIn (d + 2) t (.agg #[.int .u8 f, .int .u8 g, .int .u8 b]) (.agg #[.int .u8 f', .int .u8 g', .int .u8 b'])).run Tryz.prog w = .ok (eqP f g b f' g' b') w := by
  rw [run_equalIn_agg w (d + 1) t _ _ ht hp]
  unfold fieldsAre at h3
  generalize (Tryz.prog.fieldsOf t).toList = fs at h3
  have hl : fs.length = 3 := by have := congrArg List.length h3; simpa using this
  match fs, hl with
  | [f0, f1, f2], _ =>
    simp only [List.map_cons, List.map_nil, List.cons.injEq, Prod.mk.injEq, beq_eq_false_iff_ne, ne_eq, and_true] at h3
    obtain ⟨⟨n0, t0, o0⟩, ⟨n1, t1, o1⟩, n2, t2, o2⟩ := h3
    simp only [Op.eqFields, n0, n1, n2, t0, t1, t2, o0, o1, o2, ne_eq, not_false_eq_true, if_true, Sem.run_bind, part5 #[Value.int .u8 f, .int .u8 g, .int .u8 b] 0 f rfl, part5 #[Value.int .u8 f, .int .u8 g, .int .u8 b] 1 g rfl, part5 #[Value.int .u8 f, .int .u8 g, .int .u8 b] 2 b rfl,
      part5 #[Value.int .u8 f', .int .u8 g', .int .u8 b'] 0 f' rfl, part5 #[Value.int .u8 f', .int .u8 g', .int .u8 b'] 1 g' rfl, part5 #[Value.int .u8 f', .int .u8 g', .int .u8 b'] 2 b' rfl, Result.andThen_ok, run_equalIn_int w d 5 .u8 .u8 _ _ Tryz.underlying5, Sem.run_ite, Sem.run_pure]
    unfold eqP
    cases hf : f == f' <;> cases hg : g == g' <;> cases hb : b == b' <;> simp
theorem cellsI32 : Tryz.prog.cellsOf 21 = 1 := by kernel_rfl
theorem cellsI64 : Tryz.prog.cellsOf 3 = 1 := by kernel_rfl
theorem infoI32 : ∃ i, Tryz.prog.info? 21 = some i := Option.isSome_iff_exists.1 (by kernel_rfl)
theorem infoI64 : ∃ i, Tryz.prog.info? 3 = some i := Option.isSome_iff_exists.1 (by kernel_rfl)
theorem equalM (d : Nat) (w : World) (m n m' n' : Int) : (Op.equalIn (d + 2) 36 (.agg #[.int .i32 m, .int .i32 n]) (.agg #[.int .i32 m', .int .i32 n'])).run Tryz.prog w = .ok (eqM m n m' n') w := by
  obtain ⟨i, hi⟩ := infoI32
  rw [run_equalIn_array w (d + 1) _ _ Tryz.underlying36 hi, cellsI32]
  have hr : List.range 2 = [0, 1] := rfl
  rw [hr]
  simp only [Op.eqItems, Sem.run_bind, Nat.zero_mul, Nat.one_mul, part21 #[Value.int .i32 m, .int .i32 n] 0 m rfl, part21 #[Value.int .i32 m, .int .i32 n] 1 n rfl, part21 #[Value.int .i32 m', .int .i32 n'] 0 m' rfl, part21 #[Value.int .i32 m', .int .i32 n'] 1 n' rfl, Result.andThen_ok, run_equalIn_int w d 21 .i32 .i32 _ _ Tryz.underlying21, Sem.run_ite, Sem.run_pure]
  unfold eqM
  cases hf : m == m' <;> cases hg : n == n' <;> simp
theorem equalMI (d : Nat) (w : World) (m n m' n' : Int) : (Op.equalIn (d + 2) 49 (.agg #[.int .i64 m, .int .i64 n]) (.agg #[.int .i64 m', .int .i64 n'])).run Tryz.prog w = .ok (eqM m n m' n') w := by
  obtain ⟨i, hi⟩ := infoI64
  rw [run_equalIn_array w (d + 1) _ _ Tryz.underlying49 hi, cellsI64]
  have hr : List.range 2 = [0, 1] := rfl
  rw [hr]
  simp only [Op.eqItems, Sem.run_bind, Nat.zero_mul, Nat.one_mul, part3 #[Value.int .i64 m, .int .i64 n] 0 m rfl, part3 #[Value.int .i64 m, .int .i64 n] 1 n rfl, part3 #[Value.int .i64 m', .int .i64 n'] 0 m' rfl, part3 #[Value.int .i64 m', .int .i64 n'] 1 n' rfl, Result.andThen_ok, run_equalIn_int w d 3 .i64 .i64 _ _ Tryz.underlying3, Sem.run_ite, Sem.run_pure]
  unfold eqM
  cases hf : m == m' <;> cases hg : n == n' <;> simp
theorem partM (r m n w f g b : Value) (W : World) : (part 36 #[r, m, n, w, f, g, b] 1).run Tryz.prog W = .ok (.agg #[m, n]) W := by kernel_rfl
theorem partMI (r m n w f g b : Value) (W : World) : (part 49 #[r, m, n, w, f, g, b] 1).run Tryz.prog W = .ok (.agg #[m, n]) W := by kernel_rfl
theorem partPen (r m n w f g b : Value) (W : World) : (part 38 #[r, m, n, w, f, g, b] 4).run Tryz.prog W = .ok (.agg #[f, g, b]) W := by kernel_rfl
theorem partP (r m n w f g b : Value) (W : World) : (part 50 #[r, m, n, w, f, g, b] 4).run Tryz.prog W = .ok (.agg #[f, g, b]) W := by kernel_rfl
theorem equalCell (d : Nat) (W : World) (r m n w f g b r' m' n' w' f' g' b' : Int) :
    (Op.equalIn (d + 3) 40 (.agg #[.int .i32 r, .int .i32 m, .int .i32 n, .int .u8 w, .int .u8 f, .int .u8 g, .int .u8 b]) (.agg #[.int .i32 r', .int .i32 m', .int .i32 n', .int .u8 w', .int .u8 f', .int .u8 g', .int .u8 b'])).run Tryz.prog W = .ok (eqC r m n w f g b r' m' n' w' f' g' b') W := by
  rw [run_equalIn_agg W (d + 2) 40 _ _ Tryz.underlying40 Tryz.stoodInHeld40]
  have h3 := fieldsCell
  unfold fieldsAre at h3
  generalize (Tryz.prog.fieldsOf 40).toList = fs at h3
  have hl : fs.length = 4 := by have := congrArg List.length h3; simpa using this
  match fs, hl with
  | [f0, f1, f2, f3], _ =>
    simp only [List.map_cons, List.map_nil, List.cons.injEq, Prod.mk.injEq, beq_eq_false_iff_ne, ne_eq, and_true] at h3
    obtain ⟨⟨n0, t0, o0⟩, ⟨n1, t1, o1⟩, ⟨n2, t2, o2⟩, n3, t3, o3⟩ := h3
    simp only [Op.eqFields, n0, n1, n2, n3, t0, t1, t2, t3, o0, o1, o2, o3, ne_eq, not_false_eq_true, if_true, Sem.run_bind, partM, partPen,
      part21 #[Value.int .i32 r, .int .i32 m, .int .i32 n, .int .u8 w, .int .u8 f, .int .u8 g, .int .u8 b] 0 r rfl, part21 #[Value.int .i32 r', .int .i32 m', .int .i32 n', .int .u8 w', .int .u8 f', .int .u8 g', .int .u8 b'] 0 r' rfl,
      part5 #[Value.int .i32 r, .int .i32 m, .int .i32 n, .int .u8 w, .int .u8 f, .int .u8 g, .int .u8 b] 3 w rfl, part5 #[Value.int .i32 r', .int .i32 m', .int .i32 n', .int .u8 w', .int .u8 f', .int .u8 g', .int .u8 b'] 3 w' rfl,
      Result.andThen_ok, run_equalIn_int W (d + 1) 5 .u8 .u8 _ _ Tryz.underlying5, run_equalIn_int W (d + 1) 21 .i32 .i32 _ _ Tryz.underlying21, equalM d, equalP 38 Tryz.underlying38 Tryz.stoodInHeld38 fieldsPen d, Sem.run_ite, Sem.run_pure]
    unfold eqC
    cases r == r' <;> cases eqM m n m' n' <;> cases w == w' <;> cases eqP f g b f' g' b' <;> simp
theorem equalC (d : Nat) (W : World) (r m n w f g b r' m' n' w' f' g' b' : Int) :
    (Op.equalIn (d + 3) 52 (.agg #[.int .i64 r, .int .i64 m, .int .i64 n, .int .u8 w, .int .u8 f, .int .u8 g, .int .u8 b]) (.agg #[.int .i64 r', .int .i64 m', .int .i64 n', .int .u8 w', .int .u8 f', .int .u8 g', .int .u8 b'])).run Tryz.prog W = .ok (eqC r m n w f g b r' m' n' w' f' g' b') W := by
  rw [run_equalIn_agg W (d + 2) 52 _ _ Tryz.underlying52 Tryz.stoodInHeld52]
  have h3 := fieldsC
  unfold fieldsAre at h3
  generalize (Tryz.prog.fieldsOf 52).toList = fs at h3
  have hl : fs.length = 4 := by have := congrArg List.length h3; simpa using this
  match fs, hl with
  | [f0, f1, f2, f3], _ =>
    simp only [List.map_cons, List.map_nil, List.cons.injEq, Prod.mk.injEq, beq_eq_false_iff_ne, ne_eq, and_true] at h3
    obtain ⟨⟨n0, t0, o0⟩, ⟨n1, t1, o1⟩, ⟨n2, t2, o2⟩, n3, t3, o3⟩ := h3
    simp only [Op.eqFields, n0, n1, n2, n3, t0, t1, t2, t3, o0, o1, o2, o3, ne_eq, not_false_eq_true, if_true, Sem.run_bind, partMI, partP,
      part3 #[Value.int .i64 r, .int .i64 m, .int .i64 n, .int .u8 w, .int .u8 f, .int .u8 g, .int .u8 b] 0 r rfl, part3 #[Value.int .i64 r', .int .i64 m', .int .i64 n', .int .u8 w', .int .u8 f', .int .u8 g', .int .u8 b'] 0 r' rfl,
      part5 #[Value.int .i64 r, .int .i64 m, .int .i64 n, .int .u8 w, .int .u8 f, .int .u8 g, .int .u8 b] 3 w rfl, part5 #[Value.int .i64 r', .int .i64 m', .int .i64 n', .int .u8 w', .int .u8 f', .int .u8 g', .int .u8 b'] 3 w' rfl,
      Result.andThen_ok, run_equalIn_int W (d + 1) 5 .u8 .u8 _ _ Tryz.underlying5, run_equalIn_int W (d + 1) 3 .i64 .i64 _ _ Tryz.underlying3, equalMI d, equalP 50 Tryz.underlying50 Tryz.stoodInHeld50 fieldsP d, Sem.run_ite, Sem.run_pure]
    unfold eqC
    cases r == r' <;> cases eqM m n m' n' <;> cases w == w' <;> cases eqP f g b f' g' b' <;> simp
theorem eqlPen (f g b f' g' b' : Int) (w : World) : (binOp .eql 38 (.agg #[.int .u8 f, .int .u8 g, .int .u8 b]) (.agg #[.int .u8 f', .int .u8 g', .int .u8 b'])).run Tryz.prog w = .ok (.bool (eqP f g b f' g' b')) w := by
  rw [run_eql_struct, equalP 38 Tryz.underlying38 Tryz.stoodInHeld38 fieldsPen 9998]; rfl
theorem eqlM (m n m' n' : Int) (w : World) : (binOp .eql 49 (.agg #[.int .i64 m, .int .i64 n]) (.agg #[.int .i64 m', .int .i64 n'])).run Tryz.prog w = .ok (.bool (eqM m n m' n')) w := by
  rw [run_eql_struct, equalMI 9998]; rfl
theorem eqlCell (W : World) (r m n w f g b r' m' n' w' f' g' b' : Int) :
    (binOp .eql 40 (.agg #[.int .i32 r, .int .i32 m, .int .i32 n, .int .u8 w, .int .u8 f, .int .u8 g, .int .u8 b]) (.agg #[.int .i32 r', .int .i32 m', .int .i32 n', .int .u8 w', .int .u8 f', .int .u8 g', .int .u8 b'])).run Tryz.prog W = .ok (.bool (eqC r m n w f g b r' m' n' w' f' g' b')) W := by
  rw [run_eql_struct, equalCell 9997]; rfl
theorem eqlC (W : World) (r m n w f g b r' m' n' w' f' g' b' : Int) :
    (binOp .eql 52 (.agg #[.int .i64 r, .int .i64 m, .int .i64 n, .int .u8 w, .int .u8 f, .int .u8 g, .int .u8 b]) (.agg #[.int .i64 r', .int .i64 m', .int .i64 n', .int .u8 w', .int .u8 f', .int .u8 g', .int .u8 b'])).run Tryz.prog W = .ok (.bool (eqC r m n w f g b r' m' n' w' f' g' b')) W := by
  rw [run_eql_struct, equalC 9997]; rfl
theorem eqC_iff (r m n w f g b r' m' n' w' f' g' b' : Int) : eqC r m n w f g b r' m' n' w' f' g' b' = decide (r = r' ∧ m = m' ∧ n = n' ∧ w = w' ∧ f = f' ∧ g = g' ∧ b = b') := by
  unfold eqC eqM eqP; rw [Bool.eq_iff_iff]; simp; grind
theorem eqC_self (r m n w f g b : Int) : eqC r m n w f g b r m n w f g b = true := by rw [eqC_iff]; simp
theorem eqP_self (f g b : Int) : eqP f g b f g b = true := by unfold eqP; simp
end Go.Proofs.YtiifeniijcnahaaGreatDoor

namespace Go.Proofs.YtiifeniijcnahaaGreatDoor
set_option maxRecDepth 100000
open Go.ChangeShapes Go.WideShapes Go.ChangeAt Go.RowKit
set_option linter.unusedVariables false

/-- A cell's seven numbers, the runes of kind k. -/
def cellL (k : IntKind) (c : Cel) : List Value := [.int k c.r, .int k c.m, .int k c.n, .int .u8 (c.w : Int), .int .u8 (c.p.f : Int), .int .u8 (c.p.g : Int), .int .u8 (c.p.b : Int)]
/-- The call answered with this cell, and left all that was there. -/
def Celled (k : IntKind) (c : Cel) (w : World) (e : Ending) (w' : World) : Prop := e = .returned (.agg #[.int k c.r, .int k c.m, .int k c.n, .int .u8 (c.w : Int), .int .u8 (c.p.f : Int), .int .u8 (c.p.g : Int), .int .u8 (c.p.b : Int)]) ∧ Below w.heap.size w w'
/-- .. with this cell and this bool .. -/
def Celled2 (k : IntKind) (x : Cel × Bool) (w : World) (e : Ending) (w' : World) : Prop := e = .returned (.tuple #[.agg #[.int k x.1.r, .int k x.1.m, .int k x.1.n, .int .u8 (x.1.w : Int), .int .u8 (x.1.p.f : Int), .int .u8 (x.1.p.g : Int), .int .u8 (x.1.p.b : Int)], .bool x.2]) ∧ Below w.heap.size w w'

theorem bcell {W w1 : World} (hb : Below W.heap.size W w1) : (∀ b o, b < W.heap.size → w1.cell? ⟨b, o, none⟩ = W.cell? ⟨b, o, none⟩) ∧ (∀ b o, b < W.heap.size → w1.frozen? ⟨b, o, none⟩ = W.frozen? ⟨b, o, none⟩) :=
  ⟨fun b o h => hb.cell (p := ⟨b, o, none⟩) h, fun b o h => hb.frozen (p := ⟨b, o, none⟩) h⟩
theorem whole_snd (w : World) (o : Obj) (t : TypeId) (l : List Value) : Whole ((w.alloc o).alloc (.cells l.toArray t)) (w.heap.size + 1) t l := by
  have := Whole.new (w.alloc o) t l
  have e : (w.alloc o).heap.size = w.heap.size + 1 := by simp
  rw [e] at this
  exact this
theorem put7 {w : World} {q : Nat} {t : TypeId} {y0 y1 y2 y3 y4 y5 y6 : Value} (hw : Whole w q t [y0, y1, y2, y3, y4, y5, y6]) (x0 x1 x2 x3 x4 x5 x6 : Value) : Whole (((((((w.setCell ⟨q, 0, none⟩ x0).setCell ⟨q, 1, none⟩ x1).setCell ⟨q, 2, none⟩ x2).setCell ⟨q, 3, none⟩ x3).setCell ⟨q, 4, none⟩ x4).setCell ⟨q, 5, none⟩ x5).setCell ⟨q, 6, none⟩ x6) q t [x0, x1, x2, x3, x4, x5, x6] :=
  ((((((hw.put 0 x0).put 1 x1).put 2 x2).put 3 x3).put 4 x4).put 5 x5).put 6 x6
theorem below_put7 {B : Nat} {W w : World} {q : Nat} (h : Below B W w) (hq : B ≤ q) (x0 x1 x2 x3 x4 x5 x6 : Value) : Below B W (((((((w.setCell ⟨q, 0, none⟩ x0).setCell ⟨q, 1, none⟩ x1).setCell ⟨q, 2, none⟩ x2).setCell ⟨q, 3, none⟩ x3).setCell ⟨q, 4, none⟩ x4).setCell ⟨q, 5, none⟩ x5).setCell ⟨q, 6, none⟩ x6) := by
  exact ((((((h.setCell (p := ⟨q, 0, none⟩) hq x0).setCell (p := ⟨q, 1, none⟩) hq x1).setCell (p := ⟨q, 2, none⟩) hq x2).setCell (p := ⟨q, 3, none⟩) hq x3).setCell (p := ⟨q, 4, none⟩) hq x4).setCell (p := ⟨q, 5, none⟩) hq x5).setCell (p := ⟨q, 6, none⟩) hq x6
theorem ret7 {R : Ending → World → Prop} {a : Act} {w : World} {fn : Func} {s : Nat} {q t : Nat} {x0 x1 x2 x3 x4 x5 x6 : Value} (hr : fn.results = #[.cell s t]) (ht : t = 40 ∨ t = 52) (h4 : a.tmps.getD s undef = .pointer (some ⟨q, 0, none⟩)) (hd : a.defers = [])
    (hw : Whole w q t [x0, x1, x2, x3, x4, x5, x6]) (hR : R (.returned (.agg #[x0, x1, x2, x3, x4, x5, x6])) w) : bodyPost Tryz.prog fn R .ret a w := by
  have c0 : w.cell? ⟨q, 0, none⟩ = some x0 := hw.cell 0
  have c1 : w.cell? ⟨q, 1, none⟩ = some x1 := hw.cell 1
  have c2 : w.cell? ⟨q, 2, none⟩ = some x2 := hw.cell 2
  have c3 : w.cell? ⟨q, 3, none⟩ = some x3 := hw.cell 3
  have c4 : w.cell? ⟨q, 4, none⟩ = some x4 := hw.cell 4
  have c5 : w.cell? ⟨q, 5, none⟩ = some x5 := hw.cell 5
  have c6 : w.cell? ⟨q, 6, none⟩ = some x6 := hw.cell 6
  clear hw
  rw [Array.getD_eq_getD_getElem?] at h4
  rcases ht with rfl | rfl
  · exact bodyPost_ret (v := .agg #[x0, x1, x2, x3, x4, x5, x6]) (by simp [results, hr, h4, c0, c1, c2, c3, c4, c5, c6, go_sem]) hd hR
  · exact bodyPost_ret (v := .agg #[x0, x1, x2, x3, x4, x5, x6]) (by simp [results, hr, h4, c0, c1, c2, c3, c4, c5, c6, go_sem]) hd hR
theorem ret72 {R : Ending → World → Prop} {a : Act} {w : World} {fn : Func} {s u : Nat} {q t : Nat} {x0 x1 x2 x3 x4 x5 x6 v : Value} (hr : fn.results = #[.cell s t, .tmp u]) (ht : t = 40 ∨ t = 52) (h4 : a.tmps.getD s undef = .pointer (some ⟨q, 0, none⟩)) (h5 : a.tmps.getD u undef = v) (hd : a.defers = [])
    (hw : Whole w q t [x0, x1, x2, x3, x4, x5, x6]) (hR : R (.returned (.tuple #[.agg #[x0, x1, x2, x3, x4, x5, x6], v])) w) : bodyPost Tryz.prog fn R .ret a w := by
  have c0 : w.cell? ⟨q, 0, none⟩ = some x0 := hw.cell 0
  have c1 : w.cell? ⟨q, 1, none⟩ = some x1 := hw.cell 1
  have c2 : w.cell? ⟨q, 2, none⟩ = some x2 := hw.cell 2
  have c3 : w.cell? ⟨q, 3, none⟩ = some x3 := hw.cell 3
  have c4 : w.cell? ⟨q, 4, none⟩ = some x4 := hw.cell 4
  have c5 : w.cell? ⟨q, 5, none⟩ = some x5 := hw.cell 5
  have c6 : w.cell? ⟨q, 6, none⟩ = some x6 := hw.cell 6
  clear hw
  rw [Array.getD_eq_getD_getElem?] at h4 h5
  rcases ht with rfl | rfl
  · exact bodyPost_ret (v := .tuple #[.agg #[x0, x1, x2, x3, x4, x5, x6], v]) (by simp [results, hr, h4, h5, c0, c1, c2, c3, c4, c5, c6, go_sem]) hd hR
  · exact bodyPost_ret (v := .tuple #[.agg #[x0, x1, x2, x3, x4, x5, x6], v]) (by simp [results, hr, h4, h5, c0, c1, c2, c3, c4, c5, c6, go_sem]) hd hR

/-! ### pens -/
theorem eqP_right (f g b : Nat) : eqP (f : Int) (g : Int) (b : Int) (min (f : Int) 31) (min (g : Int) 16) (min (b : Int) 16) = rightN ⟨f, g, b⟩ := by
  unfold eqP rightN
  rw [Bool.eq_iff_iff]
  simp
  omega
set_option maxHeartbeats 400000 in
theorem right_any (f g b : Nat) (w : World) : Calls Tryz.prog 66 #[.agg #[.int .u8 (f : Int), .int .u8 (g : Int), .int .u8 (b : Int)]] w (Said (rightN ⟨f, g, b⟩) w) := by
  have e1 := eqlPen
  go_enter Tryz.func66, Tryz.ntmps66
  go_wp2
  go_ret
  exact ⟨ret_bool (eqP_right f g b), (Below.refl _ _).alloc (Nat.le_refl _) _⟩
set_option maxHeartbeats 400000 in
theorem rright_any (f g b : Nat) (w : World) : Calls Tryz.prog 80 #[.agg #[.int .u8 (f : Int), .int .u8 (g : Int), .int .u8 (b : Int)]] w (Said (rightN ⟨f, g, b⟩) w) := by
  by_cases h1 : (f : Int) ≤ 31
  · by_cases h2 : (g : Int) ≤ 16
    · by_cases h3 : (b : Int) ≤ 16
      · have H : Hid (rightN ⟨f, g, b⟩ = true) := by unfold Hid rightN; simp; omega
        go_enter Tryz.func80, Tryz.ntmps80
        go_wp2
        go_ret
        exact ⟨ret_bool H.out.symm, (Below.refl _ _).alloc (Nat.le_refl _) _⟩
      · have H : Hid (rightN ⟨f, g, b⟩ = false) := by unfold Hid rightN; simp; omega
        go_enter Tryz.func80, Tryz.ntmps80
        go_wp2
        go_ret
        exact ⟨ret_bool H.out.symm, (Below.refl _ _).alloc (Nat.le_refl _) _⟩
    · have H : Hid (rightN ⟨f, g, b⟩ = false) := by unfold Hid rightN; simp; omega
      go_enter Tryz.func80, Tryz.ntmps80
      go_wp2
      go_ret
      exact ⟨ret_bool H.out.symm, (Below.refl _ _).alloc (Nat.le_refl _) _⟩
  · have H : Hid (rightN ⟨f, g, b⟩ = false) := by unfold Hid rightN; simp; omega
    go_enter Tryz.func80, Tryz.ntmps80
    go_wp2
    go_ret
    exact ⟨ret_bool H.out.symm, (Below.refl _ _).alloc (Nat.le_refl _) _⟩

/-! ### cells -/
theorem two_new (w : World) (t u : TypeId) (l m : List Value) : Below w.heap.size w ((w.alloc (.cells l.toArray t)).alloc (.cells m.toArray u)) := ((Below.refl _ _).alloc (Nat.le_refl _) _).alloc (by simp) _
set_option maxHeartbeats 1000000 in
theorem blank_any (f g b : Nat) (w : World) : Calls Tryz.prog 68 #[.agg #[.int .u8 (f : Int), .int .u8 (g : Int), .int .u8 (b : Int)]] w (Celled .i32 (blankC ⟨f, g, b⟩) w) := by
  go_enter Tryz.func68, Tryz.ntmps68
  go_wp2
  exact ret7 Tryz.results68 (.inl rfl) rfl rfl (whole_snd w _ 40 [.int .i32 32, .int .i32 0, .int .i32 0, .int .u8 (1 : Int), .int .u8 (f : Int), .int .u8 (g : Int), .int .u8 (b : Int)]) ⟨rfl, two_new w _ _ _ _⟩
set_option maxHeartbeats 1000000 in
theorem rblank_any (f g b : Nat) (w : World) : Calls Tryz.prog 74 #[.agg #[.int .u8 (f : Int), .int .u8 (g : Int), .int .u8 (b : Int)]] w (Celled .i64 (blankC ⟨f, g, b⟩) w) := by
  go_enter Tryz.func74, Tryz.ntmps74
  go_wp2
  exact ret7 Tryz.results74 (.inr rfl) rfl rfl (whole_snd w _ 52 [.int .i64 32, .int .i64 0, .int .i64 0, .int .u8 (1 : Int), .int .u8 (f : Int), .int .u8 (g : Int), .int .u8 (b : Int)]) ⟨rfl, two_new w _ _ _ _⟩
set_option maxHeartbeats 1000000 in
theorem rest_any (r m n : Int) (d f g b : Nat) (w : World) : Calls Tryz.prog 90 #[.agg #[.int .i32 r, .int .i32 m, .int .i32 n, .int .u8 (d : Int), .int .u8 (f : Int), .int .u8 (g : Int), .int .u8 (b : Int)]] w (Celled .i32 (restC ⟨r, m, n, d, ⟨f, g, b⟩⟩) w) := by
  go_enter Tryz.func90, Tryz.ntmps90
  go_wp2
  exact ret7 Tryz.results90 (.inl rfl) rfl rfl (whole_snd w _ 40 [.int .i32 0, .int .i32 0, .int .i32 0, .int .u8 (0 : Int), .int .u8 (f : Int), .int .u8 (g : Int), .int .u8 (b : Int)]) ⟨rfl, two_new w _ _ _ _⟩
set_option maxHeartbeats 1000000 in
theorem rrest_any (r m n : Int) (d f g b : Nat) (w : World) : Calls Tryz.prog 100 #[.agg #[.int .i64 r, .int .i64 m, .int .i64 n, .int .u8 (d : Int), .int .u8 (f : Int), .int .u8 (g : Int), .int .u8 (b : Int)]] w (Celled .i64 (restC ⟨r, m, n, d, ⟨f, g, b⟩⟩) w) := by
  go_enter Tryz.func100, Tryz.ntmps100
  go_wp2
  exact ret7 Tryz.results100 (.inr rfl) rfl rfl (whole_snd w _ 52 [.int .i64 0, .int .i64 0, .int .i64 0, .int .u8 (0 : Int), .int .u8 (f : Int), .int .u8 (g : Int), .int .u8 (b : Int)]) ⟨rfl, two_new w _ _ _ _⟩
theorem whole_thd (w : World) (o o2 : Obj) (t : TypeId) (l : List Value) : Whole (((w.alloc o).alloc o2).alloc (.cells l.toArray t)) (w.heap.size + 2) t l := by
  have := whole_snd (w.alloc o) o2 t l
  have e : (w.alloc o).heap.size = w.heap.size + 1 := by simp
  rw [e] at this
  exact this
theorem three_new (w : World) (o o2 o3 : Obj) : Below w.heap.size w (((w.alloc o).alloc o2).alloc o3) := (((Below.refl _ _).alloc (Nat.le_refl _) _).alloc (by simp) _).alloc (by simp; omega) _
/-- A number of 32 bits. -/
def R32 (x : Int) : Prop := -2147483648 ≤ x ∧ x ≤ 2147483647
set_option maxHeartbeats 1000000 in
theorem lof_any (r m n : Int) (d f g b : Nat) (hr : R32 r) (hm : R32 m) (hn : R32 n) (w : World) : Calls Tryz.prog 16 #[.agg #[.int .i32 r, .int .i32 m, .int .i32 n, .int .u8 (d : Int), .int .u8 (f : Int), .int .u8 (g : Int), .int .u8 (b : Int)]] w (Celled .i64 ⟨r, m, n, d, ⟨f, g, b⟩⟩ w) := by
  obtain ⟨r1, r2⟩ := hr
  obtain ⟨m1, m2⟩ := hm
  obtain ⟨n1, n2⟩ := hn
  go_enter Tryz.func16, Tryz.ntmps16
  go_wp2
  exact ret7 Tryz.results16 (.inr rfl) rfl rfl (whole_snd w _ 52 [.int .i64 r, .int .i64 m, .int .i64 n, .int .u8 (d : Int), .int .u8 (f : Int), .int .u8 (g : Int), .int .u8 (b : Int)]) ⟨rfl, two_new w _ _ _ _⟩
theorem bears_1 (r m n : Int) (d f g b : Nat) (h : d = 1) : bearsC ⟨r, m, n, d, ⟨f, g, b⟩⟩ = true := by unfold bearsC; simp [h]
theorem bears_2 (r m n : Int) (d f g b : Nat) (h : d = 2) : bearsC ⟨r, m, n, d, ⟨f, g, b⟩⟩ = true := by unfold bearsC; simp [h]
theorem bears_no (r m n : Int) (d f g b : Nat) (h : ¬ d = 1) (h2 : ¬ d = 2) : bearsC ⟨r, m, n, d, ⟨f, g, b⟩⟩ = false := by unfold bearsC; simp [h, h2]
set_option maxHeartbeats 1000000 in
theorem bears_any (r m n : Int) (d f g b : Nat) (w : World) : Calls Tryz.prog 107 #[.agg #[.int .i32 r, .int .i32 m, .int .i32 n, .int .u8 (d : Int), .int .u8 (f : Int), .int .u8 (g : Int), .int .u8 (b : Int)]] w (Said (bearsC ⟨r, m, n, d, ⟨f, g, b⟩⟩) w) := by
  by_cases h1 : d = 1
  · have H := hide (bears_1 r m n d f g b h1)
    have e1 : ((d : Int) == 1) = true := by simp; omega
    clear h1
    go_enter Tryz.func107, Tryz.ntmps107
    go_wp2
    go_ret
    exact ⟨ret_bool H.out.symm, (Below.refl _ _).alloc (Nat.le_refl _) _⟩
  · by_cases h2 : d = 2
    · have H := hide (bears_2 r m n d f g b h2)
      have e1 : ((d : Int) == 1) = false := by simp; omega
      have e2 : ((d : Int) == 2) = true := by simp; omega
      clear h1 h2
      go_enter Tryz.func107, Tryz.ntmps107
      go_wp2
      go_ret
      exact ⟨ret_bool H.out.symm, (Below.refl _ _).alloc (Nat.le_refl _) _⟩
    · have H := hide (bears_no r m n d f g b h1 h2)
      have e1 : ((d : Int) == 1) = false := by simp; omega
      have e2 : ((d : Int) == 2) = false := by simp; omega
      clear h1 h2
      go_enter Tryz.func107, Tryz.ntmps107
      go_wp2
      go_ret
      exact ⟨ret_bool H.out.symm, (Below.refl _ _).alloc (Nat.le_refl _) _⟩
end Go.Proofs.YtiifeniijcnahaaGreatDoor

namespace Go.Proofs.YtiifeniijcnahaaGreatDoor
set_option maxRecDepth 100000
open Go.ChangeShapes Go.WideShapes Go.ChangeAt Go.RowKit
set_option linter.unusedVariables false

theorem ofC_1 (r : Int) (p : Pn) (h : wOf r = 1) : ofC r p = (⟨r, 0, 0, 1, p⟩, true) := by unfold ofC; rw [if_pos h]
theorem ofC_2 (r : Int) (p : Pn) (h : wOf r = 2) : ofC r p = (⟨r, 0, 0, 2, p⟩, true) := by unfold ofC; rw [if_neg (by omega), if_pos h]
theorem ofC_no (r : Int) (p : Pn) (h : wOf r < 1) : ofC r p = (zeroC, false) := by unfold ofC; rw [if_neg (by omega), if_neg (by omega)]
set_option maxHeartbeats 1000000 in
theorem cof_any (r : Int) (f g b : Nat) (w : World) (hS : Spans w) : Calls Tryz.prog 32 #[.int .i32 r, .agg #[.int .u8 (f : Int), .int .u8 (g : Int), .int .u8 (b : Int)]] w (Celled2 .i32 (ofC r ⟨f, g, b⟩) w) := by
  have hS2 := (hS.alloc (.cells #[.int .u8 (f : Int), .int .u8 (g : Int), .int .u8 (b : Int)] 38)).alloc (.cells #[.int .i32 0, .int .i32 0, .int .i32 0, .int .u8 (0 : Int), .int .u8 (0 : Int), .int .u8 (0 : Int), .int .u8 (0 : Int)] 40)
  have HS := hide hS2
  clear hS2 hS
  rcases wOf_range r with h | h | h | h
  · have E := hide (ofC_no r ⟨f, g, b⟩ (by omega))
    have HW := hide h
    clear h
    go_enter Tryz.func32, Tryz.ntmps32
    go_wp2_with fail
    refine (of_any r _ HS.out).mono ?_
    rintro e w1 ⟨rfl, hb1⟩
    rw [HW.out]
    obtain ⟨hc, hz⟩ := bcell hb1
    have hb := (two_new w 38 40 [.int .u8 (f : Int), .int .u8 (g : Int), .int .u8 (b : Int)] [.int .i32 0, .int .i32 0, .int .i32 0, .int .u8 (0 : Int), .int .u8 (0 : Int), .int .u8 (0 : Int), .int .u8 (0 : Int)]).trans (hb1.mono (by simp; omega))
    have HV := hide ((whole_snd w (.cells #[.int .u8 (f : Int), .int .u8 (g : Int), .int .u8 (b : Int)] 38) 40 [.int .i32 0, .int .i32 0, .int .i32 0, .int .u8 (0 : Int), .int .u8 (0 : Int), .int .u8 (0 : Int), .int .u8 (0 : Int)]).later hb1)
    go_wp2
    exact ret72 Tryz.results32 (.inl rfl) rfl rfl rfl (put7 HV.out _ _ _ _ _ _ _) ⟨by rw [E.out]; rfl, below_put7 hb (Nat.le_succ _) _ _ _ _ _ _ _⟩
  · have E := hide (ofC_no r ⟨f, g, b⟩ (by omega))
    have HW := hide h
    clear h
    go_enter Tryz.func32, Tryz.ntmps32
    go_wp2_with fail
    refine (of_any r _ HS.out).mono ?_
    rintro e w1 ⟨rfl, hb1⟩
    rw [HW.out]
    obtain ⟨hc, hz⟩ := bcell hb1
    have hb := (two_new w 38 40 [.int .u8 (f : Int), .int .u8 (g : Int), .int .u8 (b : Int)] [.int .i32 0, .int .i32 0, .int .i32 0, .int .u8 (0 : Int), .int .u8 (0 : Int), .int .u8 (0 : Int), .int .u8 (0 : Int)]).trans (hb1.mono (by simp; omega))
    have HV := hide ((whole_snd w (.cells #[.int .u8 (f : Int), .int .u8 (g : Int), .int .u8 (b : Int)] 38) 40 [.int .i32 0, .int .i32 0, .int .i32 0, .int .u8 (0 : Int), .int .u8 (0 : Int), .int .u8 (0 : Int), .int .u8 (0 : Int)]).later hb1)
    go_wp2
    exact ret72 Tryz.results32 (.inl rfl) rfl rfl rfl (put7 HV.out _ _ _ _ _ _ _) ⟨by rw [E.out]; rfl, below_put7 hb (Nat.le_succ _) _ _ _ _ _ _ _⟩
  · have E := hide (ofC_1 r ⟨f, g, b⟩ h)
    have HW := hide h
    clear h
    go_enter Tryz.func32, Tryz.ntmps32
    go_wp2_with fail
    refine (of_any r _ HS.out).mono ?_
    rintro e w1 ⟨rfl, hb1⟩
    rw [HW.out]
    obtain ⟨hc, hz⟩ := bcell hb1
    have hb := (two_new w 38 40 [.int .u8 (f : Int), .int .u8 (g : Int), .int .u8 (b : Int)] [.int .i32 0, .int .i32 0, .int .i32 0, .int .u8 (0 : Int), .int .u8 (0 : Int), .int .u8 (0 : Int), .int .u8 (0 : Int)]).trans (hb1.mono (by simp; omega))
    have HV := hide ((whole_snd w (.cells #[.int .u8 (f : Int), .int .u8 (g : Int), .int .u8 (b : Int)] 38) 40 [.int .i32 0, .int .i32 0, .int .i32 0, .int .u8 (0 : Int), .int .u8 (0 : Int), .int .u8 (0 : Int), .int .u8 (0 : Int)]).later hb1)
    go_wp2
    exact ret72 Tryz.results32 (.inl rfl) rfl rfl rfl (put7 HV.out _ _ _ _ _ _ _) ⟨by rw [E.out]; rfl, below_put7 hb (Nat.le_succ _) _ _ _ _ _ _ _⟩
  · have E := hide (ofC_2 r ⟨f, g, b⟩ h)
    have HW := hide h
    clear h
    go_enter Tryz.func32, Tryz.ntmps32
    go_wp2_with fail
    refine (of_any r _ HS.out).mono ?_
    rintro e w1 ⟨rfl, hb1⟩
    rw [HW.out]
    obtain ⟨hc, hz⟩ := bcell hb1
    have hb := (two_new w 38 40 [.int .u8 (f : Int), .int .u8 (g : Int), .int .u8 (b : Int)] [.int .i32 0, .int .i32 0, .int .i32 0, .int .u8 (0 : Int), .int .u8 (0 : Int), .int .u8 (0 : Int), .int .u8 (0 : Int)]).trans (hb1.mono (by simp; omega))
    have HV := hide ((whole_snd w (.cells #[.int .u8 (f : Int), .int .u8 (g : Int), .int .u8 (b : Int)] 38) 40 [.int .i32 0, .int .i32 0, .int .i32 0, .int .u8 (0 : Int), .int .u8 (0 : Int), .int .u8 (0 : Int), .int .u8 (0 : Int)]).later hb1)
    go_wp2
    exact ret72 Tryz.results32 (.inl rfl) rfl rfl rfl (put7 HV.out _ _ _ _ _ _ _) ⟨by rw [E.out]; rfl, below_put7 hb (Nat.le_succ _) _ _ _ _ _ _ _⟩
end Go.Proofs.YtiifeniijcnahaaGreatDoor

namespace Go.Proofs.YtiifeniijcnahaaGreatDoor
set_option maxRecDepth 100000
open Go.ChangeShapes Go.WideShapes Go.ChangeAt Go.RowKit
set_option linter.unusedVariables false

/-! ### a mark more -/
theorem cells7 {w : World} {q : Nat} {t : TypeId} {x0 x1 x2 x3 x4 x5 x6 : Value} (h : Whole w q t [x0, x1, x2, x3, x4, x5, x6]) :
    w.cell? ⟨q, 0, none⟩ = some x0 ∧ w.cell? ⟨q, 1, none⟩ = some x1 ∧ w.cell? ⟨q, 2, none⟩ = some x2 ∧ w.cell? ⟨q, 3, none⟩ = some x3 ∧ w.cell? ⟨q, 4, none⟩ = some x4 ∧ w.cell? ⟨q, 5, none⟩ = some x5 ∧ w.cell? ⟨q, 6, none⟩ = some x6 ∧ ∀ i, w.frozen? ⟨q, i, none⟩ = false :=
  ⟨h.cell 0, h.cell 1, h.cell 2, h.cell 3, h.cell 4, h.cell 5, h.cell 6, h.frozen⟩
theorem whole_put {w : World} {q o : Nat} {t : TypeId} {l : List Value} {r : Nat} (h : Whole w r t l) (hq : r ≠ q) (x : Value) : Whole (w.setCell ⟨q, o, none⟩ x) r t l := by
  unfold Whole
  rw [Below.heap_setCell _ _ _ _ hq]
  exact h
theorem idx0 (m n : Value) (w : World) : (Instr.index 36 (.agg #[m, n]) (.int .i64 0)).run Tryz.prog w = .ok m w := by kernel_rfl
theorem idx1 (m n : Value) (w : World) : (Instr.index 36 (.agg #[m, n]) (.int .i64 1)).run Tryz.prog w = .ok n w := by kernel_rfl
theorem markC_rune (c : Cel) (r : Int) (h : ¬ wOf r = 0) : markC c r = (c, false) := by unfold markC; rw [if_neg (fun q => h q.1)]
theorem markC_half (c : Cel) (r : Int) (h : bearsC c = false) : markC c r = (c, false) := by unfold markC; rw [if_neg (fun q => by rw [h] at q; cases q.2)]
theorem markC_fst (c : Cel) (r : Int) (h : wOf r = 0) (hb : bearsC c = true) (hm : c.m = 0) : markC c r = ({ c with m := r }, true) := by unfold markC; rw [if_pos ⟨h, hb⟩, if_pos hm]
theorem markC_snd (c : Cel) (r : Int) (h : wOf r = 0) (hb : bearsC c = true) (hm : ¬ c.m = 0) (hn : c.n = 0) : markC c r = ({ c with n := r }, true) := by unfold markC; rw [if_pos ⟨h, hb⟩, if_neg hm, if_pos hn]
theorem markC_full (c : Cel) (r : Int) (h : wOf r = 0) (hb : bearsC c = true) (hm : ¬ c.m = 0) (hn : ¬ c.n = 0) : markC c r = (c, false) := by unfold markC; rw [if_pos ⟨h, hb⟩, if_neg hm, if_neg hn]
set_option maxHeartbeats 2000000 in
theorem cmark_any (r m n : Int) (d f g b : Nat) (x : Int) (w : World) (hS : Spans w) : Calls Tryz.prog 103 #[.agg #[.int .i32 r, .int .i32 m, .int .i32 n, .int .u8 (d : Int), .int .u8 (f : Int), .int .u8 (g : Int), .int .u8 (b : Int)], .int .i32 x] w (Celled2 .i32 (markC ⟨r, m, n, d, ⟨f, g, b⟩⟩ x) w) := by
  obtain ⟨W0, hW0⟩ : ∃ W0, (w.alloc (.cells #[.int .i32 r, .int .i32 m, .int .i32 n, .int .u8 (d : Int), .int .u8 (f : Int), .int .u8 (g : Int), .int .u8 (b : Int)] 40)).alloc (.cells #[.int .i32 0, .int .i32 0, .int .i32 0, .int .u8 (0 : Int), .int .u8 (0 : Int), .int .u8 (0 : Int), .int .u8 (0 : Int)] 40) = W0 := ⟨_, rfl⟩
  have HS : Hid (Spans W0) := by unfold Hid; rw [← hW0]; exact (hS.alloc _).alloc _
  have HB : Hid (Below w.heap.size w W0) := by unfold Hid; rw [← hW0]; exact two_new w _ _ [.int .i32 r, .int .i32 m, .int .i32 n, .int .u8 (d : Int), .int .u8 (f : Int), .int .u8 (g : Int), .int .u8 (b : Int)] [.int .i32 0, .int .i32 0, .int .i32 0, .int .u8 (0 : Int), .int .u8 (0 : Int), .int .u8 (0 : Int), .int .u8 (0 : Int)]
  have HC : Hid (Whole W0 w.heap.size 40 [.int .i32 r, .int .i32 m, .int .i32 n, .int .u8 (d : Int), .int .u8 (f : Int), .int .u8 (g : Int), .int .u8 (b : Int)]) := by unfold Hid; rw [← hW0]; exact (Whole.new w 40 [.int .i32 r, .int .i32 m, .int .i32 n, .int .u8 (d : Int), .int .u8 (f : Int), .int .u8 (g : Int), .int .u8 (b : Int)]).alloc _
  have HR : Hid (Whole W0 (w.heap.size + 1) 40 [.int .i32 0, .int .i32 0, .int .i32 0, .int .u8 (0 : Int), .int .u8 (0 : Int), .int .u8 (0 : Int), .int .u8 (0 : Int)]) := by unfold Hid; rw [← hW0]; exact whole_snd w _ 40 [.int .i32 0, .int .i32 0, .int .i32 0, .int .u8 (0 : Int), .int .u8 (0 : Int), .int .u8 (0 : Int), .int .u8 (0 : Int)]
  have HW0 := hide hW0
  clear hS hW0
  by_cases h0 : wOf x = 0
  case neg =>
    have HX : Hid ((wOf x == 0) = false) := by unfold Hid; simpa using h0
    have E := hide (markC_rune ⟨r, m, n, d, ⟨f, g, b⟩⟩ x h0)
    clear h0
    go_enter Tryz.func103, Tryz.ntmps103
    go_wp2_with fail
    rw [HW0.out]
    refine (mark_any x _ HS.out).mono ?_
    rintro e w1 ⟨rfl, hb1⟩
    rw [HX.out]
    have HC1 := hide (HC.out.later hb1)
    have HR1 := hide (HR.out.later hb1)
    have HB1 := hide (HB.out.trans (hb1.mono HB.out.size))
    obtain ⟨c0, c1, c2, c3, c4, c5, c6, cz⟩ := cells7 HC1.out
    obtain ⟨d0, d1, d2, d3, d4, d5, d6, dz⟩ := cells7 HR1.out
    go_wp2
    exact ret72 Tryz.results103 (.inl rfl) rfl rfl rfl (put7 HR1.out _ _ _ _ _ _ _) ⟨by rw [E.out]; rfl, below_put7 HB1.out (Nat.le_succ _) _ _ _ _ _ _ _⟩
  case pos =>
    have HX : Hid ((wOf x == 0) = true) := by unfold Hid; simpa using h0
    cases hb0 : bearsC ⟨r, m, n, d, ⟨f, g, b⟩⟩
    case false =>
      have E := hide (markC_half ⟨r, m, n, d, ⟨f, g, b⟩⟩ x hb0)
      have HBR := hide hb0
      clear hb0 h0
      go_enter Tryz.func103, Tryz.ntmps103
      go_wp2_with fail
      rw [HW0.out]
      refine (mark_any x _ HS.out).mono ?_
      rintro e w1 ⟨rfl, hb1⟩
      rw [HX.out]
      have HC1 := hide (HC.out.later hb1)
      have HR1 := hide (HR.out.later hb1)
      have HB1 := hide (HB.out.trans (hb1.mono HB.out.size))
      obtain ⟨c0, c1, c2, c3, c4, c5, c6, cz⟩ := cells7 HC1.out
      go_wp2_with fail
      refine (bears_any r m n d f g b _).mono ?_
      rintro e w2 ⟨rfl, hb2⟩
      rw [HBR.out]
      have HC2 := hide (HC1.out.later hb2)
      have HR2 := hide (HR1.out.later hb2)
      have HB2 := hide (HB1.out.trans (hb2.mono HB1.out.size))
      clear c0 c1 c2 c3 c4 c5 c6 cz
      obtain ⟨c0, c1, c2, c3, c4, c5, c6, cz⟩ := cells7 HC2.out
      obtain ⟨d0, d1, d2, d3, d4, d5, d6, dz⟩ := cells7 HR2.out
      go_wp2
      exact ret72 Tryz.results103 (.inl rfl) rfl rfl rfl (put7 HR2.out _ _ _ _ _ _ _) ⟨by rw [E.out]; rfl, below_put7 HB2.out (Nat.le_succ _) _ _ _ _ _ _ _⟩
    case true =>
      have HX0 := hide h0
      have HBR := hide hb0
      clear hb0 h0
      go_enter Tryz.func103, Tryz.ntmps103
      go_wp2_with fail
      rw [HW0.out]
      refine (mark_any x _ HS.out).mono ?_
      rintro e w1 ⟨rfl, hb1⟩
      rw [HX.out]
      have HC1 := hide (HC.out.later hb1)
      have HR1 := hide (HR.out.later hb1)
      have HB1 := hide (HB.out.trans (hb1.mono HB.out.size))
      obtain ⟨c0, c1, c2, c3, c4, c5, c6, cz⟩ := cells7 HC1.out
      go_wp2_with fail
      refine (bears_any r m n d f g b _).mono ?_
      rintro e w2 ⟨rfl, hb2⟩
      rw [HBR.out]
      have HC2 := hide (HC1.out.later hb2)
      have HR2 := hide (HR1.out.later hb2)
      have HB2 := hide (HB1.out.trans (hb2.mono HB1.out.size))
      clear c0 c1 c2 c3 c4 c5 c6 cz
      obtain ⟨c0, c1, c2, c3, c4, c5, c6, cz⟩ := cells7 HC2.out
      obtain ⟨d0, d1, d2, d3, d4, d5, d6, dz⟩ := cells7 HR2.out
      go_wp2
      go_loopw [6, 7, 19] (fun _ _ i wr => (i = .int .i64 0 ∨ (i = .int .i64 1 ∧ Hid (¬ m = 0)) ∨ (i = .int .i64 2 ∧ Hid (¬ m = 0) ∧ Hid (¬ n = 0))) ∧ w2 = wr) (fun _ _ i _ => 2 - (intOf i).toNat)
      case atStart => exact ⟨.inl rfl, rfl⟩
      case round =>
        have i0 := idx0 (.int .i32 m) (.int .i32 n)
        have i1 := idx1 (.int .i32 m) (.int .i32 n)
        obtain ⟨hcase, rfl⟩ := hrel
        rcases hcase with rfl | ⟨rfl, H1⟩ | ⟨rfl, H1, H2⟩
        · by_cases hm : m = 0
          · have E := hide (markC_fst ⟨r, m, n, d, ⟨f, g, b⟩⟩ x HX0.out HBR.out hm)
            have hq : (m == 0) = true := by simpa using hm
            clear hm
            go_wp2
            exact ret72 Tryz.results103 (.inl rfl) rfl rfl rfl (put7 (whole_put HR2.out (Nat.succ_ne_self _) _) _ _ _ _ _ _ _) ⟨by rw [E.out]; rfl, below_put7 (HB2.out.setCell (p := ⟨w.heap.size, 1, none⟩) (Nat.le_refl _) _) (Nat.le_succ _) _ _ _ _ _ _ _⟩
          · have hq : (m == 0) = false := by simpa using hm
            have HM := hide hm
            clear hm
            go_wp2
            go_roundw
            case rel => exact ⟨.inr (.inl ⟨by go_num, HM⟩), by trivial⟩
            case measure => simp [intOf]
        · by_cases hn : n = 0
          · have E := hide (markC_snd ⟨r, m, n, d, ⟨f, g, b⟩⟩ x HX0.out HBR.out H1.out hn)
            have hq : (n == 0) = true := by simpa using hn
            clear hn
            go_wp2
            exact ret72 Tryz.results103 (.inl rfl) rfl rfl rfl (put7 (whole_put HR2.out (Nat.succ_ne_self _) _) _ _ _ _ _ _ _) ⟨by rw [E.out]; rfl, below_put7 (HB2.out.setCell (p := ⟨w.heap.size, 2, none⟩) (Nat.le_refl _) _) (Nat.le_succ _) _ _ _ _ _ _ _⟩
          · have hq : (n == 0) = false := by simpa using hn
            have HN := hide hn
            clear hn
            go_wp2
            go_roundw
            case rel => exact ⟨.inr (.inr ⟨by go_num, H1, HN⟩), by trivial⟩
            case measure => simp [intOf]
        · have E := hide (markC_full ⟨r, m, n, d, ⟨f, g, b⟩⟩ x HX0.out HBR.out H1.out H2.out)
          go_wp2
          exact ret72 Tryz.results103 (.inl rfl) rfl rfl rfl (put7 HR2.out _ _ _ _ _ _ _) ⟨by rw [E.out]; rfl, below_put7 HB2.out (Nat.le_succ _) _ _ _ _ _ _ _⟩
end Go.Proofs.YtiifeniijcnahaaGreatDoor

namespace Go.Proofs.YtiifeniijcnahaaGreatDoor
set_option maxRecDepth 100000
open Go.ChangeShapes Go.WideShapes Go.ChangeAt Go.RowKit
set_option linter.unusedVariables false

/-- Is a mark wrong, behind a place where one isn't (z)? -/
def wrongC (z : Bool) (x : Int) : Bool := if x = 0 then false else z || !(wOf x == 0)
theorem wrong_0 (z : Bool) (x : Int) (h : x = 0) : wrongC z x = false := by unfold wrongC; rw [if_pos h]
theorem wrong_n (z : Bool) (x : Int) (h : ¬ x = 0) : wrongC z x = (z || !(wOf x == 0)) := by unfold wrongC; rw [if_neg h]
theorem marks_wrong (m n : Int) : marksC m n = !(wrongC false m || wrongC (m == 0) n) := by
  unfold marksC wrongC
  by_cases h : m = 0
  · subst h
    by_cases h2 : n = 0
    · simp [h2]
    · simp [h2]
  · have e : (m == 0) = false := by simpa using h
    rw [if_neg h, if_neg h, e]
    by_cases h2 : n = 0
    · simp [h2]; rfl
    · simp [h2]; rfl
/-- What the closure leaves. -/
def WrongMark (q : Nat) (z : Bool) (x : Int) (w : World) (e : Ending) (w' : World) : Prop :=
  e = .returned (.bool (wrongC z x)) ∧ Whole w' q 4 [.bool (z || (x == 0))] ∧ Fr w.heap.size q w w'
set_option maxHeartbeats 1000000 in
theorem wrong_any (q : Nat) (z : Bool) (x : Int) (w : World) (hq : Whole w q 4 [.bool z]) (hS : Spans w) : Calls Tryz.prog 108 #[.int .i32 x, .pointer (some ⟨q, 0, none⟩)] w (WrongMark q z x w) := by
  have c0 : w.cell? ⟨q, 0, none⟩ = some (.bool z) := hq.cell 0
  have z0 := hq.frozen 0
  have HQ := hide hq
  have HS := hide hS
  clear hq hS
  by_cases h : x = 0
  · have E := hide (wrong_0 z x h)
    have e0 : (x == 0) = true := by simpa using h
    have E0 := hide e0
    clear h
    go_enter Tryz.func108, Tryz.ntmps108
    go_wp2
    go_ret
    exact ⟨ret_bool E.out.symm, by rw [E0.out, Bool.or_true]; exact HQ.out.put 0 _, Fr.put 0 _⟩
  · have E := hide (wrong_n z x h)
    have e0 : (x == 0) = false := by simpa using h
    have E0 := hide e0
    clear h
    cases z
    · go_enter Tryz.func108, Tryz.ntmps108
      go_wp2_with fail
      refine (mark_any x _ HS.out).mono ?_
      rintro e w1 ⟨rfl, hb⟩
      go_wp2
      go_ret
      exact ⟨ret_bool (by rw [E.out]; rfl), by rw [E0.out]; exact HQ.out.later hb, Fr.of_below hb⟩
    · go_enter Tryz.func108, Tryz.ntmps108
      go_wp2
      go_ret
      exact ⟨ret_bool (by rw [E.out]; rfl), by rw [E0.out]; exact HQ.out, Fr.refl⟩
theorem spans_ne {w : World} {g t : Nat} {x : Value} (hS : Spans w) (h : Whole w g t [x]) : 0 ≠ g := by
  rintro rfl
  have h1 := hS 1 (.int .i32 31) rfl
  rw [Nat.zero_add, h.cell 1] at h1
  cases h1
theorem Fr.spans {g : Nat} {w w' : World} (h : Fr w.heap.size g w w') (hS : Spans w) (hg : 0 ≠ g) : Spans w' := fun j v hv => by
  have := hS j v hv
  rw [← this]
  exact World.cell?_of_block (w := w) (h.block 0 hS.size hg)
theorem Fr.whole {g g2 : Nat} {w w' : World} {t : TypeId} {l : List Value} (h : Fr w.heap.size g w w') (hw : Whole w g2 t l) (hne : g2 ≠ g) : Whole w' g2 t l := (h.block g2 hw.lt hne).trans hw
/-- What the search leaves. -/
def FoundMark (q : Nat) (m n : Int) (w : World) (e : Ending) (w' : World) : Prop :=
  e = .returned (.int .i64 (if wrongC false m = true then 0 else if wrongC (m == 0) n = true then 1 else -1)) ∧ Fr w.heap.size q w w'
set_option maxHeartbeats 1000000 in
theorem indexf_any (q a : Nat) (m n : Int) (w : World) (hq : Whole w q 4 [.bool false]) (ha : Whole w a 36 [.int .i32 m, .int .i32 n]) (hne : a ≠ q) (hS : Spans w) :
    Calls Tryz.prog 112 #[.slice (some ⟨a, 0, none⟩) 2 2, .func (.func 108) #[] #[.pointer (some ⟨q, 0, none⟩)]] w (FoundMark q m n w) := by
  have hg0 := spans_ne hS hq
  have HQ := hide hq
  have HA := hide ha
  have HS := hide hS
  clear hq ha hS
  go_enter Tryz.func112, Tryz.ntmps112
  go_wp2
  go_loopw [5, 8] (fun _ i wr => ((i = .int .i64 0 ∧ Whole wr q 4 [.bool false]) ∨ (i = .int .i64 1 ∧ Hid (wrongC false m = false) ∧ Whole wr q 4 [.bool (m == 0)]) ∨ (i = .int .i64 2 ∧ Hid (wrongC false m = false) ∧ Hid (wrongC (m == 0) n = false))) ∧ Fr w.heap.size q w wr) (fun _ i _ => 2 - (intOf i).toNat)
  case atStart => exact ⟨.inl ⟨rfl, HQ.out⟩, Fr.refl⟩
  case round =>
    obtain ⟨hcase, hfr⟩ := hrel
    have HFR := hide hfr
    have HA2 := hide (hfr.whole HA.out hne)
    have HS2 := hide (hfr.spans HS.out hg0)
    clear hfr
    have a0 : wr.cell? ⟨a, 0, none⟩ = some (.int .i32 m) := HA2.out.cell 0
    have a1 : wr.cell? ⟨a, 1, none⟩ = some (.int .i32 n) := HA2.out.cell 1
    rcases hcase with ⟨rfl, hq⟩ | ⟨rfl, H1, hq⟩ | ⟨rfl, H1, H2⟩
    · have HC := hide (wrong_any q false m wr hq HS2.out)
      clear hq
      cases hw : wrongC false m
      · have HW := hide hw
        clear hw
        go_wp2_with fail
        refine HC.out.mono ?_
        rintro e w1 ⟨rfl, h2, h3⟩
        rw [HW.out]
        have H2 := hide h2
        have H3 : Hid (Fr w.heap.size q w w1) := HFR.out.trans (h3.less HFR.out.size)
        clear h2 h3
        go_wp2
        go_roundw
        case rel => exact ⟨.inr (.inl ⟨by go_num, by first | exact HW | exact hide trivial, by simpa using H2.out⟩), H3.out⟩
        case measure => simp [intOf]
      · have HW := hide hw
        clear hw
        go_wp2_with fail
        refine HC.out.mono ?_
        rintro e w1 ⟨rfl, h2, h3⟩
        rw [HW.out]
        go_wp2
        go_ret
        exact ⟨ret_int (by rw [HW.out]; rfl), HFR.out.trans (h3.less HFR.out.size)⟩
    · obtain ⟨z, hz⟩ : ∃ z, (m == 0) = z := ⟨_, rfl⟩
      have HZ := hide hz
      rw [hz] at hq
      have HC := hide (wrong_any q z n wr hq HS2.out)
      clear hq hz
      cases hw : wrongC z n
      · have HW := hide hw
        clear hw
        go_wp2_with fail
        refine HC.out.mono ?_
        rintro e w1 ⟨rfl, h2, h3⟩
        rw [HW.out]
        have H3 : Hid (Fr w.heap.size q w w1) := HFR.out.trans (h3.less HFR.out.size)
        clear h2 h3
        go_wp2
        go_roundw
        case rel => exact ⟨.inr (.inr ⟨by go_num, H1, by unfold Hid; rw [HZ.out]; exact HW.out⟩), H3.out⟩
        case measure => simp [intOf]
      · have HW := hide hw
        clear hw
        go_wp2_with fail
        refine HC.out.mono ?_
        rintro e w1 ⟨rfl, h2, h3⟩
        rw [HW.out]
        go_wp2
        go_ret
        exact ⟨ret_int (by rw [H1.out, HZ.out, HW.out]; rfl), HFR.out.trans (h3.less HFR.out.size)⟩
    · go_wp2
      go_ret
      exact ⟨ret_int (by rw [H1.out, H2.out]; rfl), HFR.out⟩
/-- .. -/
def HasWrong (q : Nat) (m n : Int) (w : World) (e : Ending) (w' : World) : Prop := e = .returned (.bool (!marksC m n)) ∧ Fr w.heap.size q w w'
set_option maxHeartbeats 1000000 in
theorem contains_any (q a : Nat) (m n : Int) (w : World) (hq : Whole w q 4 [.bool false]) (ha : Whole w a 36 [.int .i32 m, .int .i32 n]) (hne : a ≠ q) (hS : Spans w) :
    Calls Tryz.prog 109 #[.slice (some ⟨a, 0, none⟩) 2 2, .func (.func 108) #[] #[.pointer (some ⟨q, 0, none⟩)]] w (HasWrong q m n w) := by
  have HC := hide (indexf_any q a m n w hq ha hne hS)
  have HM := hide (marks_wrong m n)
  clear hq ha hS
  obtain ⟨x, hx⟩ : ∃ x, wrongC false m = x := ⟨_, rfl⟩
  obtain ⟨y, hy⟩ : ∃ y, wrongC (m == 0) n = y := ⟨_, rfl⟩
  have HX := hide hx
  have HY := hide hy
  clear hx hy
  cases x <;> cases y
  all_goals
    go_enter Tryz.func109, Tryz.ntmps109
    go_wp2_with fail
    refine HC.out.mono ?_
    rintro e w1 ⟨rfl, h3⟩
    rw [HX.out, HY.out]
    go_wp2
    go_ret
    exact ⟨ret_bool (by rw [HM.out, HX.out, HY.out]; rfl), h3⟩
set_option maxHeartbeats 1000000 in
theorem rmarks_any (m n : Int) (w : World) (hS : Spans w) : Calls Tryz.prog 104 #[.agg #[.int .i32 m, .int .i32 n]] w (Said (marksC m n) w) := by
  obtain ⟨W0, hW0⟩ : ∃ W0, (w.alloc (.cells #[.int .i32 m, .int .i32 n] 36)).alloc (.cells #[.bool false] 4) = W0 := ⟨_, rfl⟩
  have HS : Hid (Spans W0) := by unfold Hid; rw [← hW0]; exact (hS.alloc _).alloc _
  have HB : Hid (Below w.heap.size w W0) := by unfold Hid; rw [← hW0]; exact two_new w _ _ [.int .i32 m, .int .i32 n] [.bool false]
  have HA : Hid (Whole W0 w.heap.size 36 [.int .i32 m, .int .i32 n]) := by unfold Hid; rw [← hW0]; exact (Whole.new w 36 [.int .i32 m, .int .i32 n]).alloc _
  have HQ : Hid (Whole W0 (w.heap.size + 1) 4 [.bool false]) := by unfold Hid; rw [← hW0]; exact whole_snd w _ 4 [.bool false]
  have HZ : Hid (w.heap.size + 1 ≤ W0.heap.size) := by unfold Hid; rw [← hW0]; simp
  have HW0 := hide hW0
  clear hS hW0
  go_enter Tryz.func104, Tryz.ntmps104
  go_wp2_with fail
  rw [HW0.out]
  refine (contains_any (w.heap.size + 1) w.heap.size m n W0 HQ.out HA.out (by omega) HS.out).mono ?_
  rintro e w1 ⟨rfl, h3⟩
  go_wp2
  go_ret
  exact ⟨ret_bool (by simp), HB.out.trans (h3.below (by have := HZ.out; omega) (by omega))⟩
end Go.Proofs.YtiifeniijcnahaaGreatDoor

namespace Go.Proofs.YtiifeniijcnahaaGreatDoor
set_option maxRecDepth 100000
open Go.ChangeShapes Go.WideShapes Go.ChangeAt Go.RowKit
set_option linter.unusedVariables false

set_option maxHeartbeats 2000000 in
theorem rcmark_any (r m n : Int) (d f g b : Nat) (x : Int) (w : World) : Calls Tryz.prog 102 #[.agg #[.int .i64 r, .int .i64 m, .int .i64 n, .int .u8 (d : Int), .int .u8 (f : Int), .int .u8 (g : Int), .int .u8 (b : Int)], .int .i64 x] w (Celled2 .i64 (markC ⟨r, m, n, d, ⟨f, g, b⟩⟩ x) w) := by
  obtain ⟨W0, hW0⟩ : ∃ W0, (w.alloc (.cells #[.int .i64 r, .int .i64 m, .int .i64 n, .int .u8 (d : Int), .int .u8 (f : Int), .int .u8 (g : Int), .int .u8 (b : Int)] 52)).alloc (.cells #[.int .i64 0, .int .i64 0, .int .i64 0, .int .u8 (0 : Int), .int .u8 (0 : Int), .int .u8 (0 : Int), .int .u8 (0 : Int)] 52) = W0 := ⟨_, rfl⟩
  have HB : Hid (Below w.heap.size w W0) := by unfold Hid; rw [← hW0]; exact two_new w _ _ [.int .i64 r, .int .i64 m, .int .i64 n, .int .u8 (d : Int), .int .u8 (f : Int), .int .u8 (g : Int), .int .u8 (b : Int)] [.int .i64 0, .int .i64 0, .int .i64 0, .int .u8 (0 : Int), .int .u8 (0 : Int), .int .u8 (0 : Int), .int .u8 (0 : Int)]
  have HC : Hid (Whole W0 w.heap.size 52 [.int .i64 r, .int .i64 m, .int .i64 n, .int .u8 (d : Int), .int .u8 (f : Int), .int .u8 (g : Int), .int .u8 (b : Int)]) := by unfold Hid; rw [← hW0]; exact (Whole.new w 52 [.int .i64 r, .int .i64 m, .int .i64 n, .int .u8 (d : Int), .int .u8 (f : Int), .int .u8 (g : Int), .int .u8 (b : Int)]).alloc _
  have HR : Hid (Whole W0 (w.heap.size + 1) 52 [.int .i64 0, .int .i64 0, .int .i64 0, .int .u8 (0 : Int), .int .u8 (0 : Int), .int .u8 (0 : Int), .int .u8 (0 : Int)]) := by unfold Hid; rw [← hW0]; exact whole_snd w _ 52 [.int .i64 0, .int .i64 0, .int .i64 0, .int .u8 (0 : Int), .int .u8 (0 : Int), .int .u8 (0 : Int), .int .u8 (0 : Int)]
  have HW0 := hide hW0
  clear hW0
  rcases wOf_range x with h | h | h | h
  · have E := hide (markC_rune ⟨r, m, n, d, ⟨f, g, b⟩⟩ x (by omega))
    have HX := hide h
    clear h
    go_enter Tryz.func102, Tryz.ntmps102
    go_wp2_with fail
    rw [HW0.out]
    refine (rof_any x _).mono ?_
    rintro e w1 ⟨rfl, hb1⟩
    rw [HX.out]
    have HC1 := hide (HC.out.later hb1)
    have HR1 := hide (HR.out.later hb1)
    have HB1 := hide (HB.out.trans (hb1.mono HB.out.size))
    obtain ⟨c0, c1, c2, c3, c4, c5, c6, cz⟩ := cells7 HC1.out
    obtain ⟨d0, d1, d2, d3, d4, d5, d6, dz⟩ := cells7 HR1.out
    clear hb1
    go_wp2
    exact ret72 Tryz.results102 (.inr rfl) rfl rfl rfl (put7 HR1.out _ _ _ _ _ _ _) ⟨by rw [E.out]; rfl, below_put7 HB1.out (Nat.le_succ _) _ _ _ _ _ _ _⟩
  · have HX := hide h
    by_cases h1 : d = 1
    · have HBR := hide (bears_1 r m n d f g b h1)
      have e1 : ((d : Int) != 1) = false := by simp; omega
      clear h h1
      by_cases hm : m = 0
      · have E := hide (markC_fst ⟨r, m, n, d, ⟨f, g, b⟩⟩ x HX.out HBR.out hm)
        have hq : (m == 0) = true := by simpa using hm
        clear hm
        go_enter Tryz.func102, Tryz.ntmps102
        go_wp2_with fail
        rw [HW0.out]
        refine (rof_any x _).mono ?_
        rintro e w1 ⟨rfl, hb1⟩
        rw [HX.out]
        have HC1 := hide (HC.out.later hb1)
        have HR1 := hide (HR.out.later hb1)
        have HB1 := hide (HB.out.trans (hb1.mono HB.out.size))
        obtain ⟨c0, c1, c2, c3, c4, c5, c6, cz⟩ := cells7 HC1.out
        obtain ⟨d0, d1, d2, d3, d4, d5, d6, dz⟩ := cells7 HR1.out
        clear hb1
        go_wp2
        exact ret72 Tryz.results102 (.inr rfl) rfl rfl rfl (put7 (whole_put HR1.out (Nat.succ_ne_self _) _) _ _ _ _ _ _ _) ⟨by rw [E.out]; rfl, below_put7 (HB1.out.setCell (p := ⟨w.heap.size, 1, none⟩) (Nat.le_refl _) _) (Nat.le_succ _) _ _ _ _ _ _ _⟩
      · have hq : (m == 0) = false := by simpa using hm
        by_cases hn : n = 0
        · have E := hide (markC_snd ⟨r, m, n, d, ⟨f, g, b⟩⟩ x HX.out HBR.out hm hn)
          have hr : (n == 0) = true := by simpa using hn
          clear hm hn
          go_enter Tryz.func102, Tryz.ntmps102
          go_wp2_with fail
          rw [HW0.out]
          refine (rof_any x _).mono ?_
          rintro e w1 ⟨rfl, hb1⟩
          rw [HX.out]
          have HC1 := hide (HC.out.later hb1)
          have HR1 := hide (HR.out.later hb1)
          have HB1 := hide (HB.out.trans (hb1.mono HB.out.size))
          obtain ⟨c0, c1, c2, c3, c4, c5, c6, cz⟩ := cells7 HC1.out
          obtain ⟨d0, d1, d2, d3, d4, d5, d6, dz⟩ := cells7 HR1.out
          clear hb1
          go_wp2
          exact ret72 Tryz.results102 (.inr rfl) rfl rfl rfl (put7 (whole_put HR1.out (Nat.succ_ne_self _) _) _ _ _ _ _ _ _) ⟨by rw [E.out]; rfl, below_put7 (HB1.out.setCell (p := ⟨w.heap.size, 2, none⟩) (Nat.le_refl _) _) (Nat.le_succ _) _ _ _ _ _ _ _⟩
        · have E := hide (markC_full ⟨r, m, n, d, ⟨f, g, b⟩⟩ x HX.out HBR.out hm hn)
          have hr : (n == 0) = false := by simpa using hn
          clear hm hn
          go_enter Tryz.func102, Tryz.ntmps102
          go_wp2_with fail
          rw [HW0.out]
          refine (rof_any x _).mono ?_
          rintro e w1 ⟨rfl, hb1⟩
          rw [HX.out]
          have HC1 := hide (HC.out.later hb1)
          have HR1 := hide (HR.out.later hb1)
          have HB1 := hide (HB.out.trans (hb1.mono HB.out.size))
          obtain ⟨c0, c1, c2, c3, c4, c5, c6, cz⟩ := cells7 HC1.out
          obtain ⟨d0, d1, d2, d3, d4, d5, d6, dz⟩ := cells7 HR1.out
          clear hb1
          go_wp2
          exact ret72 Tryz.results102 (.inr rfl) rfl rfl rfl (put7 HR1.out _ _ _ _ _ _ _) ⟨by rw [E.out]; rfl, below_put7 HB1.out (Nat.le_succ _) _ _ _ _ _ _ _⟩
    · have e1 : ((d : Int) != 1) = true := by simp; omega
      by_cases h2 : d = 2
      · have HBR := hide (bears_2 r m n d f g b h2)
        have e2 : ((d : Int) != 2) = false := by simp; omega
        clear h h1 h2
        by_cases hm : m = 0
        · have E := hide (markC_fst ⟨r, m, n, d, ⟨f, g, b⟩⟩ x HX.out HBR.out hm)
          have hq : (m == 0) = true := by simpa using hm
          clear hm
          go_enter Tryz.func102, Tryz.ntmps102
          go_wp2_with fail
          rw [HW0.out]
          refine (rof_any x _).mono ?_
          rintro e w1 ⟨rfl, hb1⟩
          rw [HX.out]
          have HC1 := hide (HC.out.later hb1)
          have HR1 := hide (HR.out.later hb1)
          have HB1 := hide (HB.out.trans (hb1.mono HB.out.size))
          obtain ⟨c0, c1, c2, c3, c4, c5, c6, cz⟩ := cells7 HC1.out
          obtain ⟨d0, d1, d2, d3, d4, d5, d6, dz⟩ := cells7 HR1.out
          clear hb1
          go_wp2
          exact ret72 Tryz.results102 (.inr rfl) rfl rfl rfl (put7 (whole_put HR1.out (Nat.succ_ne_self _) _) _ _ _ _ _ _ _) ⟨by rw [E.out]; rfl, below_put7 (HB1.out.setCell (p := ⟨w.heap.size, 1, none⟩) (Nat.le_refl _) _) (Nat.le_succ _) _ _ _ _ _ _ _⟩
        · have hq : (m == 0) = false := by simpa using hm
          by_cases hn : n = 0
          · have E := hide (markC_snd ⟨r, m, n, d, ⟨f, g, b⟩⟩ x HX.out HBR.out hm hn)
            have hr : (n == 0) = true := by simpa using hn
            clear hm hn
            go_enter Tryz.func102, Tryz.ntmps102
            go_wp2_with fail
            rw [HW0.out]
            refine (rof_any x _).mono ?_
            rintro e w1 ⟨rfl, hb1⟩
            rw [HX.out]
            have HC1 := hide (HC.out.later hb1)
            have HR1 := hide (HR.out.later hb1)
            have HB1 := hide (HB.out.trans (hb1.mono HB.out.size))
            obtain ⟨c0, c1, c2, c3, c4, c5, c6, cz⟩ := cells7 HC1.out
            obtain ⟨d0, d1, d2, d3, d4, d5, d6, dz⟩ := cells7 HR1.out
            clear hb1
            go_wp2
            exact ret72 Tryz.results102 (.inr rfl) rfl rfl rfl (put7 (whole_put HR1.out (Nat.succ_ne_self _) _) _ _ _ _ _ _ _) ⟨by rw [E.out]; rfl, below_put7 (HB1.out.setCell (p := ⟨w.heap.size, 2, none⟩) (Nat.le_refl _) _) (Nat.le_succ _) _ _ _ _ _ _ _⟩
          · have E := hide (markC_full ⟨r, m, n, d, ⟨f, g, b⟩⟩ x HX.out HBR.out hm hn)
            have hr : (n == 0) = false := by simpa using hn
            clear hm hn
            go_enter Tryz.func102, Tryz.ntmps102
            go_wp2_with fail
            rw [HW0.out]
            refine (rof_any x _).mono ?_
            rintro e w1 ⟨rfl, hb1⟩
            rw [HX.out]
            have HC1 := hide (HC.out.later hb1)
            have HR1 := hide (HR.out.later hb1)
            have HB1 := hide (HB.out.trans (hb1.mono HB.out.size))
            obtain ⟨c0, c1, c2, c3, c4, c5, c6, cz⟩ := cells7 HC1.out
            obtain ⟨d0, d1, d2, d3, d4, d5, d6, dz⟩ := cells7 HR1.out
            clear hb1
            go_wp2
            exact ret72 Tryz.results102 (.inr rfl) rfl rfl rfl (put7 HR1.out _ _ _ _ _ _ _) ⟨by rw [E.out]; rfl, below_put7 HB1.out (Nat.le_succ _) _ _ _ _ _ _ _⟩
      · have E := hide (markC_half ⟨r, m, n, d, ⟨f, g, b⟩⟩ x (bears_no r m n d f g b h1 h2))
        have e2 : ((d : Int) != 2) = true := by simp; omega
        clear h h1 h2
        go_enter Tryz.func102, Tryz.ntmps102
        go_wp2_with fail
        rw [HW0.out]
        refine (rof_any x _).mono ?_
        rintro e w1 ⟨rfl, hb1⟩
        rw [HX.out]
        have HC1 := hide (HC.out.later hb1)
        have HR1 := hide (HR.out.later hb1)
        have HB1 := hide (HB.out.trans (hb1.mono HB.out.size))
        obtain ⟨c0, c1, c2, c3, c4, c5, c6, cz⟩ := cells7 HC1.out
        obtain ⟨d0, d1, d2, d3, d4, d5, d6, dz⟩ := cells7 HR1.out
        clear hb1
        go_wp2
        exact ret72 Tryz.results102 (.inr rfl) rfl rfl rfl (put7 HR1.out _ _ _ _ _ _ _) ⟨by rw [E.out]; rfl, below_put7 HB1.out (Nat.le_succ _) _ _ _ _ _ _ _⟩
  · have E := hide (markC_rune ⟨r, m, n, d, ⟨f, g, b⟩⟩ x (by omega))
    have HX := hide h
    clear h
    go_enter Tryz.func102, Tryz.ntmps102
    go_wp2_with fail
    rw [HW0.out]
    refine (rof_any x _).mono ?_
    rintro e w1 ⟨rfl, hb1⟩
    rw [HX.out]
    have HC1 := hide (HC.out.later hb1)
    have HR1 := hide (HR.out.later hb1)
    have HB1 := hide (HB.out.trans (hb1.mono HB.out.size))
    obtain ⟨c0, c1, c2, c3, c4, c5, c6, cz⟩ := cells7 HC1.out
    obtain ⟨d0, d1, d2, d3, d4, d5, d6, dz⟩ := cells7 HR1.out
    clear hb1
    go_wp2
    exact ret72 Tryz.results102 (.inr rfl) rfl rfl rfl (put7 HR1.out _ _ _ _ _ _ _) ⟨by rw [E.out]; rfl, below_put7 HB1.out (Nat.le_succ _) _ _ _ _ _ _ _⟩
  · have E := hide (markC_rune ⟨r, m, n, d, ⟨f, g, b⟩⟩ x (by omega))
    have HX := hide h
    clear h
    go_enter Tryz.func102, Tryz.ntmps102
    go_wp2_with fail
    rw [HW0.out]
    refine (rof_any x _).mono ?_
    rintro e w1 ⟨rfl, hb1⟩
    rw [HX.out]
    have HC1 := hide (HC.out.later hb1)
    have HR1 := hide (HR.out.later hb1)
    have HB1 := hide (HB.out.trans (hb1.mono HB.out.size))
    obtain ⟨c0, c1, c2, c3, c4, c5, c6, cz⟩ := cells7 HC1.out
    obtain ⟨d0, d1, d2, d3, d4, d5, d6, dz⟩ := cells7 HR1.out
    clear hb1
    go_wp2
    exact ret72 Tryz.results102 (.inr rfl) rfl rfl rfl (put7 HR1.out _ _ _ _ _ _ _) ⟨by rw [E.out]; rfl, below_put7 HB1.out (Nat.le_succ _) _ _ _ _ _ _ _⟩
end Go.Proofs.YtiifeniijcnahaaGreatDoor
