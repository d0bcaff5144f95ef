/-
  Contracts: a rune's width by the program's table.
-/
import Derived.Test.YtdeoeihbmdgipaaDoorWBase
namespace Go.Proofs.YtdeoeihbmdgipaaDoor
open Go.ChangeShapes Go.WideShapes Go.ChangeAt Go.RowKit
set_option linter.unusedVariables false

theorem tab_at (k : Nat) (hk : k < 18) : ∃ f t d : Int, spans[k]? = some (f, t, d) ∧ ∀ w, (Instr.index 93 (.agg spanCells.toArray) (.int .i64 (k : Int))).run Tryd.prog w = .ok (.agg #[.int .i32 f, .int .i32 t, .int .i64 d]) w := by
  have e : k < spans.length := hk
  refine ⟨spans[k].1, spans[k].2.1, spans[k].2.2, List.getElem?_eq_getElem e, fun w => ?_⟩
  obtain ⟨f, t, d, h1, h2⟩ := tab_index w k hk
  rw [List.getElem?_eq_getElem e] at h1
  rw [Option.some.inj h1]
  exact h2
theorem wOf_nsc (r : Int) (h : isSc r = false) : wOf r = -1 := by
  unfold wOf; rw [if_pos]; exact .inr (.inr h)

theorem exec_tab (w : World) (hS : Spans w) (ρ : Operand → Value) (o : Oper) (ho : o.op = .load 93 (.global 0)) (hρ : ρ (.global 0) = .pointer (some ⟨0, 0, none⟩)) :
    (execOp ρ o).run Tryd.prog w = .ok (.value (.agg spanCells.toArray)) w := by
  unfold execOp
  simp only [ho, hρ, Instr.loadAt, Instr.sureAddr, Sem.run_bind, Sem.run_pure, Result.andThen_ok, run_loadVar_mid w 0 0 93 spanCells _ hS Tryd.underlying93 rfl (by rw [spanCells_len]; exact info93)]

set_option maxHeartbeats 1000000 in
theorem of_any (r : Int) (w : World) (hS : Spans w) : Calls Tryd.prog 55 #[.int .i32 r] w (Num .i64 (wOf r) w) := by
  by_cases hsc : isSc r = true
  · have HL := hide (look_wOf r hsc)
    go_enter Tryd.func55, Tryd.ntmps55
    go_wp2_with (first | (go_at_call 61; refine (scalar_any _ _).mono ?_; rintro e w' ⟨rfl, rfl⟩) | (with_reducible refine wpList_val (o := ⟨some 8, _, _, _, _, _⟩) rfl (v := .agg spanCells.toArray) ?_ ?_))
    · exact exec_tab w hS _ _ rfl rfl
    go_wp2
    clear hsc
    go_loopw [4, 9] (fun s i wr => ∃ k : Nat, k ≤ 18 ∧ i = .int .i64 k ∧ look r (spans.drop k) = wOf r ∧ Below w.heap.size w wr) (fun _ i _ => 18 - (intOf i).toNat)
    case atStart => exact ⟨0, Nat.zero_le _, rfl, HL.out, Below.refl _ _⟩
    case round =>
      obtain ⟨k, hk, rfl, hl, hbel⟩ := hrel
      have HK := hide hl
      clear hl
      by_cases hlt : k < 18
      · obtain ⟨f, t, d, he, hrun⟩ := tab_at k hlt
        have HD := hide (look_drop r k hlt f t d he)
        clear he
        by_cases c1 : f ≤ r
        · by_cases c2 : r ≤ t
          · have e : d = wOf r := by rw [← HK.out, HD.out, if_pos ⟨c1, c2⟩]
            have E := hide e
            clear e
            go_wp2
            go_ret
            exact ⟨ret_int E.out, hbel.alloc hbel.size _⟩
          · have HN : Hid (look r (spans.drop (k + 1)) = wOf r) := by unfold Hid; rw [← HK.out, HD.out, if_neg (fun h => c2 h.2)]
            go_wp2
            go_roundw
            case rel => exact ⟨k + 1, by omega, by go_num, HN.out, hbel.alloc hbel.size _⟩
            case measure => simp [intOf]; omega
        · have HN : Hid (look r (spans.drop (k + 1)) = wOf r) := by unfold Hid; rw [← HK.out, HD.out, if_neg (fun h => c1 h.1)]
          go_wp2
          go_roundw
          case rel => exact ⟨k + 1, by omega, by go_num, HN.out, hbel.alloc hbel.size _⟩
          case measure => simp [intOf]; omega
      · have e : wOf r = 1 := by rw [← HK.out, List.drop_eq_nil_of_le (by show spans.length ≤ k; have : spans.length = 18 := rfl; omega)]; rfl
        have E := hide e
        clear e
        go_wp2
        go_ret
        exact ⟨ret_int E.out.symm, hbel⟩
  · have hf : isSc r = false := by simpa using hsc
    have HW := hide (wOf_nsc r hf)
    clear hsc
    go_enter Tryd.func55, Tryd.ntmps55
    go_wp2_with (go_at_call 61; refine (scalar_any _ _).mono ?_; rintro e w' ⟨rfl, rfl⟩)
    go_ret
    exact ⟨ret_int HW.out.symm, Below.refl _ _⟩

/-! ### whether it is 2, 0, 1; without those that take no part -/
set_option maxHeartbeats 400000 in
set_option maxHeartbeats 400000 in
theorem mark_any (r : Int) (w : World) (hS : Spans w) : Calls Tryd.prog 59 #[.int .i32 r] w (Said (wOf r == 0) w) := by
  go_enter Tryd.func59, Tryd.ntmps59
  go_wp2_with fail
  refine (of_any r w hS).mono ?_
  rintro e w1 ⟨rfl, hb⟩
  go_wp2
  go_ret
  exact ⟨rfl, hb⟩
end Go.Proofs.YtdeoeihbmdgipaaDoor
