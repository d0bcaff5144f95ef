/-
  Cells and pens compared whole, as the walk meets it.
-/
import Derived.Test.YtdeoeihbmdgipaaDoorChecked
import Derived.Test.YtdeoeihbmdgipaaDoorRow
import Derived.Laws.StructEq
import Derived.ChangeKeysEq
namespace Go.Proofs.YtdeoeihbmdgipaaDoor
open Go.ChangeShapes Go.WideShapes Go.ChangeAt Go.RowKit
set_option linter.unusedVariables false

def eqP (f g b f' g' b' : Int) : Bool := (f == f') && ((g == g') && (b == b'))
def eqM (m n m' n' : Int) : Bool := (m == m') && (n == n')
def eqC (r m n w f g b r' m' n' w' f' g' b' : Int) : Bool := (r == r') && (eqM m n m' n' && ((w == w') && eqP f g b f' g' b'))
def fieldsAre (P : Program) (t : TypeId) (l : List (Bool × TypeId × Nat)) : Prop := (P.fieldsOf t).toList.map (fun f => (f.name == "_", f.type, f.offset)) = l
theorem fieldsPen : fieldsAre Tryd.prog 25 [(false, 5, 0), (false, 5, 1), (false, 5, 2)] := by unfold fieldsAre; kernel_rfl
theorem fieldsP : fieldsAre Tryd.prog 36 [(false, 5, 0), (false, 5, 1), (false, 5, 2)] := by unfold fieldsAre; kernel_rfl
theorem fieldsCell : fieldsAre Tryd.prog 27 [(false, 21, 0), (false, 23, 1), (false, 5, 3), (false, 25, 4)] := by unfold fieldsAre; kernel_rfl
theorem fieldsC : fieldsAre Tryd.prog 38 [(false, 3, 0), (false, 35, 1), (false, 5, 3), (false, 36, 4)] := by unfold fieldsAre; kernel_rfl

theorem part5 (xs : Array Value) (i : Nat) (x : Int) (h : xs[i]? = some (.int .u8 x)) (w : World) : (part 5 xs i).run Tryd.prog w = .ok (.int .u8 x) w := by
  unfold part
  simp [go_sem, h]
theorem part21 (xs : Array Value) (i : Nat) (x : Int) (h : xs[i]? = some (.int .i32 x)) (w : World) : (part 21 xs i).run Tryd.prog w = .ok (.int .i32 x) w := by
  unfold part
  simp [go_sem, h]
theorem part3 (xs : Array Value) (i : Nat) (x : Int) (h : xs[i]? = some (.int .i64 x)) (w : World) : (part 3 xs i).run Tryd.prog w = .ok (.int .i64 x) w := by
  unfold part
  simp [go_sem, h]
theorem equalP (t : TypeId) (ht : Tryd.prog.underlying t = some (.struct (Tryd.prog.fieldsOf t))) (hp : Tryd.prog.stoodInHeld t = false) (h3 : fieldsAre Tryd.prog t [(false, 5, 0), (false, 5, 1), (false, 5, 2)]) (d : Nat) (w : World) (f g b f' g' b' : Int) :
    (Op.equalIn (d + 2) t (.agg #[.int .u8 f, .int .u8 g, .int .u8 b]) (.agg #[.int .u8 f', .int .u8 g', .int .u8 b'])).run Tryd.prog w = .ok (eqP f g b f' g' b') w := by
  rw [run_equalIn_agg w (d + 1) t _ _ ht hp]
  unfold fieldsAre at h3
  generalize (Tryd.prog.fieldsOf t).toList = fs at h3
  have hl : fs.length = 3 := by have := congrArg List.length h3; simpa using this
  match fs, hl with
  | [f0, f1, f2], _ =>
    simp only [List.map_cons, List.map_nil, List.cons.injEq, Prod.mk.injEq, beq_eq_false_iff_ne, ne_eq, and_true] at h3
    obtain ⟨⟨n0, t0, o0⟩, ⟨n1, t1, o1⟩, n2, t2, o2⟩ := h3
    simp only [Op.eqFields, n0, n1, n2, t0, t1, t2, o0, o1, o2, ne_eq, not_false_eq_true, if_true, Sem.run_bind, part5 #[Value.int .u8 f, .int .u8 g, .int .u8 b] 0 f rfl, part5 #[Value.int .u8 f, .int .u8 g, .int .u8 b] 1 g rfl, part5 #[Value.int .u8 f, .int .u8 g, .int .u8 b] 2 b rfl,
      part5 #[Value.int .u8 f', .int .u8 g', .int .u8 b'] 0 f' rfl, part5 #[Value.int .u8 f', .int .u8 g', .int .u8 b'] 1 g' rfl, part5 #[Value.int .u8 f', .int .u8 g', .int .u8 b'] 2 b' rfl, Result.andThen_ok, run_equalIn_int w d 5 .u8 .u8 _ _ Tryd.underlying5, Sem.run_ite, Sem.run_pure]
    unfold eqP
    cases hf : f == f' <;> cases hg : g == g' <;> cases hb : b == b' <;> simp
theorem cellsI32 : Tryd.prog.cellsOf 21 = 1 := by kernel_rfl
theorem cellsI64 : Tryd.prog.cellsOf 3 = 1 := by kernel_rfl
theorem infoI32 : ∃ i, Tryd.prog.info? 21 = some i := Option.isSome_iff_exists.1 (by kernel_rfl)
theorem infoI64 : ∃ i, Tryd.prog.info? 3 = some i := Option.isSome_iff_exists.1 (by kernel_rfl)
theorem equalM (d : Nat) (w : World) (m n m' n' : Int) : (Op.equalIn (d + 2) 23 (.agg #[.int .i32 m, .int .i32 n]) (.agg #[.int .i32 m', .int .i32 n'])).run Tryd.prog w = .ok (eqM m n m' n') w := by
  obtain ⟨i, hi⟩ := infoI32
  rw [run_equalIn_array w (d + 1) _ _ Tryd.underlying23 hi, cellsI32]
  have hr : List.range 2 = [0, 1] := rfl
  rw [hr]
  simp only [Op.eqItems, Sem.run_bind, Nat.zero_mul, Nat.one_mul, part21 #[Value.int .i32 m, .int .i32 n] 0 m rfl, part21 #[Value.int .i32 m, .int .i32 n] 1 n rfl, part21 #[Value.int .i32 m', .int .i32 n'] 0 m' rfl, part21 #[Value.int .i32 m', .int .i32 n'] 1 n' rfl, Result.andThen_ok, run_equalIn_int w d 21 .i32 .i32 _ _ Tryd.underlying21, Sem.run_ite, Sem.run_pure]
  unfold eqM
  cases hf : m == m' <;> cases hg : n == n' <;> simp
theorem equalMI (d : Nat) (w : World) (m n m' n' : Int) : (Op.equalIn (d + 2) 35 (.agg #[.int .i64 m, .int .i64 n]) (.agg #[.int .i64 m', .int .i64 n'])).run Tryd.prog w = .ok (eqM m n m' n') w := by
  obtain ⟨i, hi⟩ := infoI64
  rw [run_equalIn_array w (d + 1) _ _ Tryd.underlying35 hi, cellsI64]
  have hr : List.range 2 = [0, 1] := rfl
  rw [hr]
  simp only [Op.eqItems, Sem.run_bind, Nat.zero_mul, Nat.one_mul, part3 #[Value.int .i64 m, .int .i64 n] 0 m rfl, part3 #[Value.int .i64 m, .int .i64 n] 1 n rfl, part3 #[Value.int .i64 m', .int .i64 n'] 0 m' rfl, part3 #[Value.int .i64 m', .int .i64 n'] 1 n' rfl, Result.andThen_ok, run_equalIn_int w d 3 .i64 .i64 _ _ Tryd.underlying3, Sem.run_ite, Sem.run_pure]
  unfold eqM
  cases hf : m == m' <;> cases hg : n == n' <;> simp
theorem partM (r m n w f g b : Value) (W : World) : (part 23 #[r, m, n, w, f, g, b] 1).run Tryd.prog W = .ok (.agg #[m, n]) W := by kernel_rfl
theorem partMI (r m n w f g b : Value) (W : World) : (part 35 #[r, m, n, w, f, g, b] 1).run Tryd.prog W = .ok (.agg #[m, n]) W := by kernel_rfl
theorem partPen (r m n w f g b : Value) (W : World) : (part 25 #[r, m, n, w, f, g, b] 4).run Tryd.prog W = .ok (.agg #[f, g, b]) W := by kernel_rfl
theorem partP (r m n w f g b : Value) (W : World) : (part 36 #[r, m, n, w, f, g, b] 4).run Tryd.prog W = .ok (.agg #[f, g, b]) W := by kernel_rfl
theorem equalCell (d : Nat) (W : World) (r m n w f g b r' m' n' w' f' g' b' : Int) :
    (Op.equalIn (d + 3) 27 (.agg #[.int .i32 r, .int .i32 m, .int .i32 n, .int .u8 w, .int .u8 f, .int .u8 g, .int .u8 b]) (.agg #[.int .i32 r', .int .i32 m', .int .i32 n', .int .u8 w', .int .u8 f', .int .u8 g', .int .u8 b'])).run Tryd.prog W = .ok (eqC r m n w f g b r' m' n' w' f' g' b') W := by
  rw [run_equalIn_agg W (d + 2) 27 _ _ Tryd.underlying27 Tryd.stoodInHeld27]
  have h3 := fieldsCell
  unfold fieldsAre at h3
  generalize (Tryd.prog.fieldsOf 27).toList = fs at h3
  have hl : fs.length = 4 := by have := congrArg List.length h3; simpa using this
  match fs, hl with
  | [f0, f1, f2, f3], _ =>
    simp only [List.map_cons, List.map_nil, List.cons.injEq, Prod.mk.injEq, beq_eq_false_iff_ne, ne_eq, and_true] at h3
    obtain ⟨⟨n0, t0, o0⟩, ⟨n1, t1, o1⟩, ⟨n2, t2, o2⟩, n3, t3, o3⟩ := h3
    simp only [Op.eqFields, n0, n1, n2, n3, t0, t1, t2, t3, o0, o1, o2, o3, ne_eq, not_false_eq_true, if_true, Sem.run_bind, partM, partPen,
      part21 #[Value.int .i32 r, .int .i32 m, .int .i32 n, .int .u8 w, .int .u8 f, .int .u8 g, .int .u8 b] 0 r rfl, part21 #[Value.int .i32 r', .int .i32 m', .int .i32 n', .int .u8 w', .int .u8 f', .int .u8 g', .int .u8 b'] 0 r' rfl,
      part5 #[Value.int .i32 r, .int .i32 m, .int .i32 n, .int .u8 w, .int .u8 f, .int .u8 g, .int .u8 b] 3 w rfl, part5 #[Value.int .i32 r', .int .i32 m', .int .i32 n', .int .u8 w', .int .u8 f', .int .u8 g', .int .u8 b'] 3 w' rfl,
      Result.andThen_ok, run_equalIn_int W (d + 1) 5 .u8 .u8 _ _ Tryd.underlying5, run_equalIn_int W (d + 1) 21 .i32 .i32 _ _ Tryd.underlying21, equalM d, equalP 25 Tryd.underlying25 Tryd.stoodInHeld25 fieldsPen d, Sem.run_ite, Sem.run_pure]
    unfold eqC
    cases r == r' <;> cases eqM m n m' n' <;> cases w == w' <;> cases eqP f g b f' g' b' <;> simp
theorem equalC (d : Nat) (W : World) (r m n w f g b r' m' n' w' f' g' b' : Int) :
    (Op.equalIn (d + 3) 38 (.agg #[.int .i64 r, .int .i64 m, .int .i64 n, .int .u8 w, .int .u8 f, .int .u8 g, .int .u8 b]) (.agg #[.int .i64 r', .int .i64 m', .int .i64 n', .int .u8 w', .int .u8 f', .int .u8 g', .int .u8 b'])).run Tryd.prog W = .ok (eqC r m n w f g b r' m' n' w' f' g' b') W := by
  rw [run_equalIn_agg W (d + 2) 38 _ _ Tryd.underlying38 Tryd.stoodInHeld38]
  have h3 := fieldsC
  unfold fieldsAre at h3
  generalize (Tryd.prog.fieldsOf 38).toList = fs at h3
  have hl : fs.length = 4 := by have := congrArg List.length h3; simpa using this
  match fs, hl with
  | [f0, f1, f2, f3], _ =>
    simp only [List.map_cons, List.map_nil, List.cons.injEq, Prod.mk.injEq, beq_eq_false_iff_ne, ne_eq, and_true] at h3
    obtain ⟨⟨n0, t0, o0⟩, ⟨n1, t1, o1⟩, ⟨n2, t2, o2⟩, n3, t3, o3⟩ := h3
    simp only [Op.eqFields, n0, n1, n2, n3, t0, t1, t2, t3, o0, o1, o2, o3, ne_eq, not_false_eq_true, if_true, Sem.run_bind, partMI, partP,
      part3 #[Value.int .i64 r, .int .i64 m, .int .i64 n, .int .u8 w, .int .u8 f, .int .u8 g, .int .u8 b] 0 r rfl, part3 #[Value.int .i64 r', .int .i64 m', .int .i64 n', .int .u8 w', .int .u8 f', .int .u8 g', .int .u8 b'] 0 r' rfl,
      part5 #[Value.int .i64 r, .int .i64 m, .int .i64 n, .int .u8 w, .int .u8 f, .int .u8 g, .int .u8 b] 3 w rfl, part5 #[Value.int .i64 r', .int .i64 m', .int .i64 n', .int .u8 w', .int .u8 f', .int .u8 g', .int .u8 b'] 3 w' rfl,
      Result.andThen_ok, run_equalIn_int W (d + 1) 5 .u8 .u8 _ _ Tryd.underlying5, run_equalIn_int W (d + 1) 3 .i64 .i64 _ _ Tryd.underlying3, equalMI d, equalP 36 Tryd.underlying36 Tryd.stoodInHeld36 fieldsP d, Sem.run_ite, Sem.run_pure]
    unfold eqC
    cases r == r' <;> cases eqM m n m' n' <;> cases w == w' <;> cases eqP f g b f' g' b' <;> simp
theorem eqlPen (f g b f' g' b' : Int) (w : World) : (binOp .eql 25 (.agg #[.int .u8 f, .int .u8 g, .int .u8 b]) (.agg #[.int .u8 f', .int .u8 g', .int .u8 b'])).run Tryd.prog w = .ok (.bool (eqP f g b f' g' b')) w := by
  rw [run_eql_struct, equalP 25 Tryd.underlying25 Tryd.stoodInHeld25 fieldsPen 9998]; rfl
theorem eqlM (m n m' n' : Int) (w : World) : (binOp .eql 35 (.agg #[.int .i64 m, .int .i64 n]) (.agg #[.int .i64 m', .int .i64 n'])).run Tryd.prog w = .ok (.bool (eqM m n m' n')) w := by
  rw [run_eql_struct, equalMI 9998]; rfl
theorem eqlCell (W : World) (r m n w f g b r' m' n' w' f' g' b' : Int) :
    (binOp .eql 27 (.agg #[.int .i32 r, .int .i32 m, .int .i32 n, .int .u8 w, .int .u8 f, .int .u8 g, .int .u8 b]) (.agg #[.int .i32 r', .int .i32 m', .int .i32 n', .int .u8 w', .int .u8 f', .int .u8 g', .int .u8 b'])).run Tryd.prog W = .ok (.bool (eqC r m n w f g b r' m' n' w' f' g' b')) W := by
  rw [run_eql_struct, equalCell 9997]; rfl
theorem eqlC (W : World) (r m n w f g b r' m' n' w' f' g' b' : Int) :
    (binOp .eql 38 (.agg #[.int .i64 r, .int .i64 m, .int .i64 n, .int .u8 w, .int .u8 f, .int .u8 g, .int .u8 b]) (.agg #[.int .i64 r', .int .i64 m', .int .i64 n', .int .u8 w', .int .u8 f', .int .u8 g', .int .u8 b'])).run Tryd.prog W = .ok (.bool (eqC r m n w f g b r' m' n' w' f' g' b')) W := by
  rw [run_eql_struct, equalC 9997]; rfl
theorem eqC_iff (r m n w f g b r' m' n' w' f' g' b' : Int) : eqC r m n w f g b r' m' n' w' f' g' b' = decide (r = r' ∧ m = m' ∧ n = n' ∧ w = w' ∧ f = f' ∧ g = g' ∧ b = b') := by
  unfold eqC eqM eqP; rw [Bool.eq_iff_iff]; simp; grind
theorem eqC_self (r m n w f g b : Int) : eqC r m n w f g b r m n w f g b = true := by rw [eqC_iff]; simp
theorem eqP_self (f g b : Int) : eqP f g b f g b = true := by unfold eqP; simp
end Go.Proofs.YtdeoeihbmdgipaaDoor
