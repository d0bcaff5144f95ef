/-
  Two pens compared whole, as the walk meets it.
-/
import Derived.Test.YthedfbkkeolkmaaDoorChecked
import Derived.Test.YthedfbkkeolkmaaDoorRow
import Derived.Laws.StructEq
namespace Go.Proofs.YthedfbkkeolkmaaDoor
open Go.ChangeShapes Go.WideShapes Go.ChangeAt Go.RowKit
set_option linter.unusedVariables false

def eqP (f g b f' g' b' : Int) : Bool := (f == f') && ((g == g') && (b == b'))
def threeFields (P : Program) (t : TypeId) : Prop := (P.fieldsOf t).toList.map (fun f => (f.name == "_", f.type, f.offset)) = [(false, 5, 0), (false, 5, 1), (false, 5, 2)]
theorem fields23 : threeFields Tryd.prog 23 := by unfold threeFields; kernel_rfl
theorem fields27 : threeFields Tryd.prog 27 := by unfold threeFields; kernel_rfl
theorem part5 (xs : Array Value) (i : Nat) (x : Int) (h : xs[i]? = some (.int .u8 x)) (w : World) : (part 5 xs i).run Tryd.prog w = .ok (.int .u8 x) w := by
  unfold part
  simp [go_sem, h]
theorem equal3 (t : TypeId) (ht : Tryd.prog.underlying t = some (.struct (Tryd.prog.fieldsOf t))) (hp : Tryd.prog.stoodInHeld t = false) (h3 : threeFields Tryd.prog t) (d : Nat) (w : World) (f g b f' g' b' : Int) :
    (Op.equalIn (d + 2) t (.agg #[.int .u8 f, .int .u8 g, .int .u8 b]) (.agg #[.int .u8 f', .int .u8 g', .int .u8 b'])).run Tryd.prog w = .ok (eqP f g b f' g' b') w := by
  rw [run_equalIn_agg w (d + 1) t _ _ ht hp]
  unfold threeFields at h3
  generalize (Tryd.prog.fieldsOf t).toList = fs at h3
  have hl : fs.length = 3 := by have := congrArg List.length h3; simpa using this
  match fs, hl with
  | [f0, f1, f2], _ =>
    simp only [List.map_cons, List.map_nil, List.cons.injEq, Prod.mk.injEq, beq_eq_false_iff_ne, ne_eq, and_true] at h3
    obtain ⟨⟨n0, t0, o0⟩, ⟨n1, t1, o1⟩, n2, t2, o2⟩ := h3
    simp only [Op.eqFields, n0, n1, n2, t0, t1, t2, o0, o1, o2, ne_eq, not_false_eq_true, if_true, Sem.run_bind, part5 #[Value.int .u8 f, .int .u8 g, .int .u8 b] 0 f rfl, part5 #[Value.int .u8 f, .int .u8 g, .int .u8 b] 1 g rfl, part5 #[Value.int .u8 f, .int .u8 g, .int .u8 b] 2 b rfl,
      part5 #[Value.int .u8 f', .int .u8 g', .int .u8 b'] 0 f' rfl, part5 #[Value.int .u8 f', .int .u8 g', .int .u8 b'] 1 g' rfl, part5 #[Value.int .u8 f', .int .u8 g', .int .u8 b'] 2 b' rfl, Result.andThen_ok, run_equalIn_int w d 5 .u8 .u8 _ _ Tryd.underlying5, Sem.run_ite, Sem.run_pure]
    unfold eqP
    cases hf : f == f' <;> cases hg : g == g' <;> cases hb : b == b' <;> simp
theorem eql23 (f g b f' g' b' : Int) (w : World) : (binOp .eql 23 (.agg #[.int .u8 f, .int .u8 g, .int .u8 b]) (.agg #[.int .u8 f', .int .u8 g', .int .u8 b'])).run Tryd.prog w = .ok (.bool (eqP f g b f' g' b')) w := by
  rw [run_eql_struct, equal3 23 Tryd.underlying23 Tryd.stoodInHeld23 fields23 9998]; rfl
theorem neq23 (f g b f' g' b' : Int) (w : World) : (binOp .neq 23 (.agg #[.int .u8 f, .int .u8 g, .int .u8 b]) (.agg #[.int .u8 f', .int .u8 g', .int .u8 b'])).run Tryd.prog w = .ok (.bool (!eqP f g b f' g' b')) w := by
  rw [run_neq_struct, equal3 23 Tryd.underlying23 Tryd.stoodInHeld23 fields23 9998]; rfl
theorem eql27 (f g b f' g' b' : Int) (w : World) : (binOp .eql 27 (.agg #[.int .u8 f, .int .u8 g, .int .u8 b]) (.agg #[.int .u8 f', .int .u8 g', .int .u8 b'])).run Tryd.prog w = .ok (.bool (eqP f g b f' g' b')) w := by
  rw [run_eql_struct, equal3 27 Tryd.underlying27 Tryd.stoodInHeld27 fields27 9998]; rfl
theorem neq27 (f g b f' g' b' : Int) (w : World) : (binOp .neq 27 (.agg #[.int .u8 f, .int .u8 g, .int .u8 b]) (.agg #[.int .u8 f', .int .u8 g', .int .u8 b'])).run Tryd.prog w = .ok (.bool (!eqP f g b f' g' b')) w := by
  rw [run_neq_struct, equal3 27 Tryd.underlying27 Tryd.stoodInHeld27 fields27 9998]; rfl
end Go.Proofs.YthedfbkkeolkmaaDoor
