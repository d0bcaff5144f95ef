/-
  Contracts: the map of sequences, what one does, what events do (the program's emulator).
  Contract: a host's bytes (the program's emulator).
  Contracts: a new emulator, what one tells, another size, a copy; the nil one (the program's).
  Plain mathematics of layer 9 (emu), on: letters that are printed in a row; the chapter's example.
  Plain mathematics of layer 9 (emu): the chapter's example.
-/
import Derived.Test.YtkijclgbpbhglaaGreatDoorQa21
import Derived.Test.YtkijclgbpbhglaaGreatDoorQa22
import Derived.Test.YtkijclgbpbhglaaGreatDoorQa19
import Derived.Test.YtkijclgbpbhglaaGreatDoorQa17
import Derived.Test.YtkijclgbpbhglaaGreatDoorQa11
import Derived.Test.YtkijclgbpbhglaaGreatDoorQa12
import Derived.Test.YtkijclgbpbhglaaGreatDoorQa7
namespace Go.Proofs.YtkijclgbpbhglaaGreatDoor
set_option maxRecDepth 100000
open Go.ChangeShapes Go.WideShapes Go.ChangeAt Go.RowKit
set_option linter.unusedVariables false

def seqEs : Array MapEntry := #[⟨.int .i32 65, .func (.func 149) #[] #[], 0⟩, ⟨.int .i32 66, .func (.func 150) #[] #[], 1⟩, ⟨.int .i32 67, .func (.func 151) #[] #[], 2⟩, ⟨.int .i32 68, .func (.func 152) #[] #[], 3⟩, ⟨.int .i32 72, .func (.func 153) #[] #[], 4⟩, ⟨.int .i32 74, .func (.func 154) #[] #[], 5⟩, ⟨.int .i32 75, .func (.func 155) #[] #[], 6⟩, ⟨.int .i32 109, .func (.func 156) #[] #[], 7⟩]
theorem run_insertW {P : Program} {w : World} {T K V : TypeId} {es : Array MapEntry} {clock : Nat} {q : IntKind} {z : Int} {v : Value} (ht : P.underlying T = some (.map K V)) (hk : P.underlying K = some (.int q)) (hn : Instr.findNow (.int q) (.int q z) es.toList 0 = some none) :
    (Instr.mapUpdate T (.map (some w.heap.size)) (.int q z) v).run P (w.alloc (.map es clock)) = .ok () (w.alloc (.map (es.push { key := .int q z, val := v, born := clock }) (clock + 1))) := by
  have hb := (Go.MapKept.heap_alloc w (.map es clock)).1
  rw [run_insertM ht hk hb hn]
  have hp : ∀ (a : Array Obj) (x y : Obj), (a.push x).setIfInBounds a.size y = a.push y := by
    intro a x y
    apply Array.ext_getElem?
    intro i
    rw [Array.getElem?_setIfInBounds, Array.getElem?_push, Array.getElem?_push, Array.size_push]
    by_cases h : a.size = i
    · rw [if_pos h, if_pos (by omega), if_pos h.symm]
    · rw [if_neg h, if_neg (fun q => h q.symm), if_neg (fun q => h q.symm)]
  show Result.ok () ({ w with heap := (w.heap.push _).setIfInBounds w.heap.size _ } : World) = _
  rw [hp]
  rfl
set_option maxHeartbeats 2000000 in
theorem seqs_any (w : World) : Calls Tryz.prog 102 #[] w fun x w' => ∃ q, x = .returned (.map (some q)) ∧ w'.heap[q]? = some (.map seqEs 8) ∧ Below w.heap.size w w' := by
  have h0 : (Instr.mapUpdate 160 (.map (some w.heap.size)) (.int .i32 65) (.func (.func 149) #[] #[])).run Tryz.prog (w.alloc (.map #[] 0)) = .ok () (w.alloc (.map #[⟨.int .i32 65, .func (.func 149) #[] #[], 0⟩] 1)) := run_insertW Tryz.underlying160 Tryz.underlying21 (by kernel_rfl)
  have h1 : (Instr.mapUpdate 160 (.map (some w.heap.size)) (.int .i32 66) (.func (.func 150) #[] #[])).run Tryz.prog (w.alloc (.map #[⟨.int .i32 65, .func (.func 149) #[] #[], 0⟩] 1)) = .ok () (w.alloc (.map #[⟨.int .i32 65, .func (.func 149) #[] #[], 0⟩, ⟨.int .i32 66, .func (.func 150) #[] #[], 1⟩] 2)) := run_insertW Tryz.underlying160 Tryz.underlying21 (by kernel_rfl)
  have h2 : (Instr.mapUpdate 160 (.map (some w.heap.size)) (.int .i32 67) (.func (.func 151) #[] #[])).run Tryz.prog (w.alloc (.map #[⟨.int .i32 65, .func (.func 149) #[] #[], 0⟩, ⟨.int .i32 66, .func (.func 150) #[] #[], 1⟩] 2)) = .ok () (w.alloc (.map #[⟨.int .i32 65, .func (.func 149) #[] #[], 0⟩, ⟨.int .i32 66, .func (.func 150) #[] #[], 1⟩, ⟨.int .i32 67, .func (.func 151) #[] #[], 2⟩] 3)) := run_insertW Tryz.underlying160 Tryz.underlying21 (by kernel_rfl)
  have h3 : (Instr.mapUpdate 160 (.map (some w.heap.size)) (.int .i32 68) (.func (.func 152) #[] #[])).run Tryz.prog (w.alloc (.map #[⟨.int .i32 65, .func (.func 149) #[] #[], 0⟩, ⟨.int .i32 66, .func (.func 150) #[] #[], 1⟩, ⟨.int .i32 67, .func (.func 151) #[] #[], 2⟩] 3)) = .ok () (w.alloc (.map #[⟨.int .i32 65, .func (.func 149) #[] #[], 0⟩, ⟨.int .i32 66, .func (.func 150) #[] #[], 1⟩, ⟨.int .i32 67, .func (.func 151) #[] #[], 2⟩, ⟨.int .i32 68, .func (.func 152) #[] #[], 3⟩] 4)) := run_insertW Tryz.underlying160 Tryz.underlying21 (by kernel_rfl)
  have h4 : (Instr.mapUpdate 160 (.map (some w.heap.size)) (.int .i32 72) (.func (.func 153) #[] #[])).run Tryz.prog (w.alloc (.map #[⟨.int .i32 65, .func (.func 149) #[] #[], 0⟩, ⟨.int .i32 66, .func (.func 150) #[] #[], 1⟩, ⟨.int .i32 67, .func (.func 151) #[] #[], 2⟩, ⟨.int .i32 68, .func (.func 152) #[] #[], 3⟩] 4)) = .ok () (w.alloc (.map #[⟨.int .i32 65, .func (.func 149) #[] #[], 0⟩, ⟨.int .i32 66, .func (.func 150) #[] #[], 1⟩, ⟨.int .i32 67, .func (.func 151) #[] #[], 2⟩, ⟨.int .i32 68, .func (.func 152) #[] #[], 3⟩, ⟨.int .i32 72, .func (.func 153) #[] #[], 4⟩] 5)) := run_insertW Tryz.underlying160 Tryz.underlying21 (by kernel_rfl)
  have h5 : (Instr.mapUpdate 160 (.map (some w.heap.size)) (.int .i32 74) (.func (.func 154) #[] #[])).run Tryz.prog (w.alloc (.map #[⟨.int .i32 65, .func (.func 149) #[] #[], 0⟩, ⟨.int .i32 66, .func (.func 150) #[] #[], 1⟩, ⟨.int .i32 67, .func (.func 151) #[] #[], 2⟩, ⟨.int .i32 68, .func (.func 152) #[] #[], 3⟩, ⟨.int .i32 72, .func (.func 153) #[] #[], 4⟩] 5)) = .ok () (w.alloc (.map #[⟨.int .i32 65, .func (.func 149) #[] #[], 0⟩, ⟨.int .i32 66, .func (.func 150) #[] #[], 1⟩, ⟨.int .i32 67, .func (.func 151) #[] #[], 2⟩, ⟨.int .i32 68, .func (.func 152) #[] #[], 3⟩, ⟨.int .i32 72, .func (.func 153) #[] #[], 4⟩, ⟨.int .i32 74, .func (.func 154) #[] #[], 5⟩] 6)) := run_insertW Tryz.underlying160 Tryz.underlying21 (by kernel_rfl)
  have h6 : (Instr.mapUpdate 160 (.map (some w.heap.size)) (.int .i32 75) (.func (.func 155) #[] #[])).run Tryz.prog (w.alloc (.map #[⟨.int .i32 65, .func (.func 149) #[] #[], 0⟩, ⟨.int .i32 66, .func (.func 150) #[] #[], 1⟩, ⟨.int .i32 67, .func (.func 151) #[] #[], 2⟩, ⟨.int .i32 68, .func (.func 152) #[] #[], 3⟩, ⟨.int .i32 72, .func (.func 153) #[] #[], 4⟩, ⟨.int .i32 74, .func (.func 154) #[] #[], 5⟩] 6)) = .ok () (w.alloc (.map #[⟨.int .i32 65, .func (.func 149) #[] #[], 0⟩, ⟨.int .i32 66, .func (.func 150) #[] #[], 1⟩, ⟨.int .i32 67, .func (.func 151) #[] #[], 2⟩, ⟨.int .i32 68, .func (.func 152) #[] #[], 3⟩, ⟨.int .i32 72, .func (.func 153) #[] #[], 4⟩, ⟨.int .i32 74, .func (.func 154) #[] #[], 5⟩, ⟨.int .i32 75, .func (.func 155) #[] #[], 6⟩] 7)) := run_insertW Tryz.underlying160 Tryz.underlying21 (by kernel_rfl)
  have h7 : (Instr.mapUpdate 160 (.map (some w.heap.size)) (.int .i32 109) (.func (.func 156) #[] #[])).run Tryz.prog (w.alloc (.map #[⟨.int .i32 65, .func (.func 149) #[] #[], 0⟩, ⟨.int .i32 66, .func (.func 150) #[] #[], 1⟩, ⟨.int .i32 67, .func (.func 151) #[] #[], 2⟩, ⟨.int .i32 68, .func (.func 152) #[] #[], 3⟩, ⟨.int .i32 72, .func (.func 153) #[] #[], 4⟩, ⟨.int .i32 74, .func (.func 154) #[] #[], 5⟩, ⟨.int .i32 75, .func (.func 155) #[] #[], 6⟩] 7)) = .ok () (w.alloc (.map #[⟨.int .i32 65, .func (.func 149) #[] #[], 0⟩, ⟨.int .i32 66, .func (.func 150) #[] #[], 1⟩, ⟨.int .i32 67, .func (.func 151) #[] #[], 2⟩, ⟨.int .i32 68, .func (.func 152) #[] #[], 3⟩, ⟨.int .i32 72, .func (.func 153) #[] #[], 4⟩, ⟨.int .i32 74, .func (.func 154) #[] #[], 5⟩, ⟨.int .i32 75, .func (.func 155) #[] #[], 6⟩, ⟨.int .i32 109, .func (.func 156) #[] #[], 7⟩] 8)) := run_insertW Tryz.underlying160 Tryz.underlying21 (by kernel_rfl)
  have hmk : (Instr.makeMap 160 none).run Tryz.prog w = .ok (.map (some w.heap.size)) (w.alloc (.map #[] 0)) := by simp [Instr.makeMap, Result.andThen]
  have HB : Hid (Below w.heap.size w (w.alloc (.map seqEs 8))) := (Below.refl _ _).alloc (Nat.le_refl _) _
  have HM : Hid ((w.alloc (.map seqEs 8)).heap[w.heap.size]? = some (.map seqEs 8)) := (Go.MapKept.heap_alloc w _).1
  go_enter Tryz.func102, Tryz.ntmps102
  go_wp2
  go_ret
  exact ⟨_, rfl, HM.out, HB.out⟩
section
variable {w : World} {b : Bl} {L R C : Nat} {e : Em}
set_option maxHeartbeats 3000000 in
theorem seq_yes (h : Emu w b L R C e) (kd r : Int) (A : Option Addr) (n c : Nat) (ns : List Int) (f : FuncId) (i : Nat) (e2 : Em) (hfc : ∀ args w, (callFunc f args).run Tryz.prog w = .ok (.enter f args) w) (hn : Instr.findNow (.int .i32) (.int .i32 r) seqEs.toList 0 = some (some (i, .func (.func f) #[] #[])))
    (hf : ∀ w1, Below w.heap.size w w1 → ∀ args, args = #[.pointer (some ⟨b.E, 0, none⟩), .agg #[.int .i64 kd, .int .i32 r, .slice A n c]] → Calls Tryz.prog f args w1 (DoneE b L R C e2 w1)) :
    Calls Tryz.prog 52 #[.pointer (some ⟨b.E, 0, none⟩), .agg #[.int .i64 kd, .int .i32 r, .slice A n c]] w (DoneE b L R C e2 w) := by
  obtain ⟨W0, hW0⟩ : ∃ W0, w.alloc (.cells #[.int .i64 kd, .int .i32 r, .slice A n c] 56) = W0 := ⟨_, rfl⟩
  have HB0 : Hid (Below w.heap.size w W0) := by unfold Hid; rw [← hW0]; exact (Below.refl _ _).alloc (Nat.le_refl _) _
  have HX0 : Hid (Whole W0 w.heap.size 56 [.int .i64 kd, .int .i32 r, .slice A n c]) := by unfold Hid; rw [← hW0]; exact Whole.new w 56 [.int .i64 kd, .int .i32 r, .slice A n c]
  have HW0 := hide hW0
  clear hW0
  obtain ⟨x0, x1, x2, lX⟩ := cells3 HX0.out
  have HN := hide hn
  have HF := hide (fun w1 hb => hf w1 hb _ rfl)
  clear hn hf h
  go_enter Tryz.func52, Tryz.ntmps52
  go_wp2
  rw [HW0.out]
  refine wp_region_chainL (fun w' => Below W0.heap.size W0 w') 8 [(0, 1), (0, 2), (1, 0), (1, 3), (1, 4), (0, 5), (0, 7), (1, 6), (3, 8)] (by kernel_rfl) (by kernel_rfl) (by kernel_rfl) (fun _ _ _ _ _ h => h) ?_ ?_
  · exact (Below.refl _ _).drewN 1
  refine chainL_take (v := ?_) (by simp only [List.getElem?_toArray, List.getElem?_cons_zero, List.getElem?_cons_succ]; rfl) (by rfl) (fun w hS => ?_) ?_
  rotate_left
  · go_simp <;> with_reducible rfl
  simp only [Act.put, List.setIfInBounds_toArray, List.set_cons_zero, List.set_cons_succ]
  refine chainL_take (v := ?_) (by simp only [List.getElem?_toArray, List.getElem?_cons_zero, List.getElem?_cons_succ]; rfl) (by rfl) (fun w hS => ?_) ?_
  rotate_left
  · obtain ⟨y0, y1, y2, -⟩ := cells3 (HX0.out.later hS); go_simp <;> with_reducible rfl
  simp only [Act.put, List.setIfInBounds_toArray, List.set_cons_zero, List.set_cons_succ]
  refine chainL_alone (by simp only [List.getElem?_toArray, List.getElem?_cons_zero]; rfl) ?_
  intro K hK
  go_wp2_with fail
  refine (seqs_any _).mono ?_
  rintro x k1 ⟨q, rfl, hm, hb⟩
  have B1 : Below W0.heap.size W0 k1 := ((Below.refl _ _).drewN 1).trans hb
  have hlk := run_lookM (T := 160) Tryz.underlying160 Tryz.underlying21 hm HN.out
  clear hb hm
  go_wp2
  refine hK.out _ _ (B1) ?_
  clear hK K
  refine chainL_alone (by simp only [List.getElem?_toArray, List.getElem?_cons_zero, List.getElem?_cons_succ]; rfl) ?_
  intro K hK
  go_wp2
  refine hK.out _ _ (B1) ?_
  clear hK K
  refine chainL_alone (by simp only [List.getElem?_toArray, List.getElem?_cons_zero, List.getElem?_cons_succ]; rfl) ?_
  intro K hK
  go_wp2
  refine hK.out _ _ (B1) ?_
  clear hK K
  refine chainL_take (v := ?_) (by simp only [List.getElem?_toArray, List.getElem?_cons_zero, List.getElem?_cons_succ]; rfl) (by rfl) (fun w hS => ?_) ?_
  rotate_left
  · go_simp <;> with_reducible rfl
  simp only [Act.put, List.setIfInBounds_toArray, List.set_cons_zero, List.set_cons_succ]
  refine chainL_take (v := ?_) (by simp only [List.getElem?_toArray, List.getElem?_cons_zero, List.getElem?_cons_succ]; rfl) (by rfl) (fun w hS => ?_) ?_
  rotate_left
  · go_simp <;> with_reducible rfl
  simp only [Act.put, List.setIfInBounds_toArray, List.set_cons_zero, List.set_cons_succ]
  refine chainL_alone (by simp only [List.getElem?_toArray, List.getElem?_cons_zero, List.getElem?_cons_succ]; rfl) ?_
  intro K hK
  go_wp2
  refine hK.out _ _ (B1) ?_
  clear hK K
  refine chainL_late (by simp only [List.getElem?_toArray, List.getElem?_cons_zero, List.getElem?_cons_succ]; rfl) ?_
  intro K hK
  go_wp2
  refine hK.out _ _ ?_
  clear hK K
  refine chainL_nil ?_
  clear x0 x1 x2 lX
  obtain ⟨x0, x1, x2, lX⟩ := cells3 (HX0.out.later B1)
  clear hlk
  go_wp2_with fail
  refine (HF.out k1 (HB0.out.trans (B1.mono HB0.out.size))).mono ?_
  rintro x k2 ⟨rfl, L1, ha⟩
  have HA := hide (At.first (HB0.out.trans (B1.mono HB0.out.size)) ha)
  clear ha B1 x0 x1 x2 lX
  go_wp2
  refine bodyPost_end (v := .tuple #[]) (by simp [results, Tryz.results52]) rfl ⟨rfl, _, HA.out⟩
set_option maxHeartbeats 3000000 in
theorem seq_no (h : Emu w b L R C e) (kd r : Int) (A : Option Addr) (n c : Nat) (ns : List Int) (hn : Instr.findNow (.int .i32) (.int .i32 r) seqEs.toList 0 = some none) :
    Calls Tryz.prog 52 #[.pointer (some ⟨b.E, 0, none⟩), .agg #[.int .i64 kd, .int .i32 r, .slice A n c]] w (DoneE b L R C e w) := by
  obtain ⟨W0, hW0⟩ : ∃ W0, w.alloc (.cells #[.int .i64 kd, .int .i32 r, .slice A n c] 56) = W0 := ⟨_, rfl⟩
  have HB0 : Hid (Below w.heap.size w W0) := by unfold Hid; rw [← hW0]; exact (Below.refl _ _).alloc (Nat.le_refl _) _
  have HX0 : Hid (Whole W0 w.heap.size 56 [.int .i64 kd, .int .i32 r, .slice A n c]) := by unfold Hid; rw [← hW0]; exact Whole.new w 56 [.int .i64 kd, .int .i32 r, .slice A n c]
  have HW0 := hide hW0
  clear hW0
  obtain ⟨x0, x1, x2, lX⟩ := cells3 HX0.out
  have HN := hide hn
  have HE := hide (h.later HB0.out)
  clear hn h
  go_enter Tryz.func52, Tryz.ntmps52
  go_wp2
  rw [HW0.out]
  refine wp_region_chainL (fun w' => Below W0.heap.size W0 w') 8 [(0, 1), (0, 2), (1, 0), (1, 3), (1, 4), (0, 5), (0, 7), (1, 6), (3, 8)] (by kernel_rfl) (by kernel_rfl) (by kernel_rfl) (fun _ _ _ _ _ h => h) ?_ ?_
  · exact (Below.refl _ _).drewN 1
  refine chainL_take (v := ?_) (by simp only [List.getElem?_toArray, List.getElem?_cons_zero, List.getElem?_cons_succ]; rfl) (by rfl) (fun w hS => ?_) ?_
  rotate_left
  · go_simp <;> with_reducible rfl
  simp only [Act.put, List.setIfInBounds_toArray, List.set_cons_zero, List.set_cons_succ]
  refine chainL_take (v := ?_) (by simp only [List.getElem?_toArray, List.getElem?_cons_zero, List.getElem?_cons_succ]; rfl) (by rfl) (fun w hS => ?_) ?_
  rotate_left
  · obtain ⟨y0, y1, y2, -⟩ := cells3 (HX0.out.later hS); go_simp <;> with_reducible rfl
  simp only [Act.put, List.setIfInBounds_toArray, List.set_cons_zero, List.set_cons_succ]
  refine chainL_alone (by simp only [List.getElem?_toArray, List.getElem?_cons_zero]; rfl) ?_
  intro K hK
  go_wp2_with fail
  refine (seqs_any _).mono ?_
  rintro x k1 ⟨q, rfl, hm, hb⟩
  have B1 : Below W0.heap.size W0 k1 := ((Below.refl _ _).drewN 1).trans hb
  have hlk := run_lookM_no (T := 160) (v0 := .nilFunc) Tryz.underlying160 Tryz.underlying21 hm HN.out (by kernel_rfl)
  clear hb hm
  go_wp2
  refine hK.out _ _ (B1) ?_
  clear hK K
  refine chainL_alone (by simp only [List.getElem?_toArray, List.getElem?_cons_zero, List.getElem?_cons_succ]; rfl) ?_
  intro K hK
  go_wp2
  refine hK.out _ _ (B1) ?_
  clear hK K
  refine chainL_alone (by simp only [List.getElem?_toArray, List.getElem?_cons_zero, List.getElem?_cons_succ]; rfl) ?_
  intro K hK
  go_wp2
  refine hK.out _ _ (B1) ?_
  clear hK K
  refine chainL_take (v := ?_) (by simp only [List.getElem?_toArray, List.getElem?_cons_zero, List.getElem?_cons_succ]; rfl) (by rfl) (fun w hS => ?_) ?_
  rotate_left
  · go_simp <;> with_reducible rfl
  simp only [Act.put, List.setIfInBounds_toArray, List.set_cons_zero, List.set_cons_succ]
  refine chainL_take (v := ?_) (by simp only [List.getElem?_toArray, List.getElem?_cons_zero, List.getElem?_cons_succ]; rfl) (by rfl) (fun w hS => ?_) ?_
  rotate_left
  · go_simp <;> with_reducible rfl
  simp only [Act.put, List.setIfInBounds_toArray, List.set_cons_zero, List.set_cons_succ]
  refine chainL_alone (by simp only [List.getElem?_toArray, List.getElem?_cons_zero, List.getElem?_cons_succ]; rfl) ?_
  intro K hK
  go_wp2
  refine hK.out _ _ (B1) ?_
  clear hK K
  refine chainL_late (by simp only [List.getElem?_toArray, List.getElem?_cons_zero, List.getElem?_cons_succ]; rfl) ?_
  intro K hK
  go_wp2
  refine hK.out _ _ ?_
  clear hK K
  refine chainL_nil ?_
  clear hlk x0 x1 x2 lX
  have HA := hide (At.first HB0.out (At.first B1 (At.refl (HE.out.later B1))))
  clear B1
  go_wp2
  refine bodyPost_end (v := .tuple #[]) (by simp [results, Tryz.results52]) rfl ⟨rfl, _, HA.out⟩
theorem find_no (r : Int) (h : ¬ r = 65 ∧ ¬ r = 66 ∧ ¬ r = 67 ∧ ¬ r = 68 ∧ ¬ r = 72 ∧ ¬ r = 74 ∧ ¬ r = 75 ∧ ¬ r = 109) : Instr.findNow (.int .i32) (.int .i32 r) seqEs.toList 0 = some none := by
  obtain ⟨h1, h2, h3, h4, h5, h6, h7, h8⟩ := h
  have q : ∀ k : Int, ¬ r = k → (r == k) = false := fun k hk => by simp [hk]
  simp [seqEs, Instr.findNow, Instr.sameNow, q _ h1, q _ h2, q _ h3, q _ h4, q _ h5, q _ h6, q _ h7, q _ h8]
/-- What a sequence does. -/
theorem seq_any (h : Emu w b L R C e) (kd r : Int) (A : Option Addr) (n c : Nat) (ns : List Int) {B : Nat} (hi : IntsT B 3 .i64 w A ns) (hn : ns.length = n) (hl : Low B b L) (hB : B ≤ w.heap.size) (hm : n ≤ 1000000) :
    Calls Tryz.prog 52 #[.pointer (some ⟨b.E, 0, none⟩), .agg #[.int .i64 kd, .int .i32 r, .slice A n c]] w (DoneE b L R C (doE e C ⟨3, r, ns⟩) w) := by
  by_cases q65 : r = 65
  · subst q65
    refine seq_yes h kd 65 A n c ns 149 0 _ (enter_of Tryz.func149 (by kernel_rfl) (by kernel_rfl)) (by kernel_rfl) (fun w1 hb args ha => ?_)
    subst ha
    exact eup_any (h.later hb) kd 65 A n c ns (hi.ints.below hb) hn
  by_cases q66 : r = 66
  · subst q66
    refine seq_yes h kd 66 A n c ns 150 1 _ (enter_of Tryz.func150 (by kernel_rfl) (by kernel_rfl)) (by kernel_rfl) (fun w1 hb args ha => ?_)
    subst ha
    exact edown_any (h.later hb) kd 66 A n c ns (hi.ints.below hb) hn
  by_cases q67 : r = 67
  · subst q67
    refine seq_yes h kd 67 A n c ns 151 2 _ (enter_of Tryz.func151 (by kernel_rfl) (by kernel_rfl)) (by kernel_rfl) (fun w1 hb args ha => ?_)
    subst ha
    exact eright_any (h.later hb) kd 67 A n c ns (hi.ints.below hb) hn
  by_cases q68 : r = 68
  · subst q68
    refine seq_yes h kd 68 A n c ns 152 3 _ (enter_of Tryz.func152 (by kernel_rfl) (by kernel_rfl)) (by kernel_rfl) (fun w1 hb args ha => ?_)
    subst ha
    exact eleft_any (h.later hb) kd 68 A n c ns (hi.ints.below hb) hn
  by_cases q72 : r = 72
  · subst q72
    refine seq_yes h kd 72 A n c ns 153 4 _ (enter_of Tryz.func153 (by kernel_rfl) (by kernel_rfl)) (by kernel_rfl) (fun w1 hb args ha => ?_)
    subst ha
    exact eplace_any (h.later hb) kd 72 A n c ns (hi.ints.below hb) hn
  by_cases q74 : r = 74
  · subst q74
    refine seq_yes h kd 74 A n c ns 154 5 _ (enter_of Tryz.func154 (by kernel_rfl) (by kernel_rfl)) (by kernel_rfl) (fun w1 hb args ha => ?_)
    subst ha
    exact eerows_any (h.later hb) kd 74 A n c ns (hi.below hb hB) hn hl (Nat.le_trans hB hb.size)
  by_cases q75 : r = 75
  · subst q75
    refine seq_yes h kd 75 A n c ns 155 6 _ (enter_of Tryz.func155 (by kernel_rfl) (by kernel_rfl)) (by kernel_rfl) (fun w1 hb args ha => ?_)
    subst ha
    exact erow_any (h.later hb) kd 75 A n c ns (hi.ints.below hb) hn
  by_cases q109 : r = 109
  · subst q109
    refine seq_yes h kd 109 A n c ns 156 7 _ (enter_of Tryz.func156 (by kernel_rfl) (by kernel_rfl)) (by kernel_rfl) (fun w1 hb args ha => ?_)
    subst ha
    exact eturn_any (h.later hb) kd 109 A n c ns (hi.ints.below hb) hn hm
  have hd : doE e C ⟨3, r, ns⟩ = e := by unfold doE; simp [q65, q66, q67, q68, q72, q74, q75, q109]
  rw [hd]
  exact seq_no h kd r A n c ns (find_no r ⟨q65, q66, q67, q68, q72, q74, q75, q109⟩)
theorem take_snocE (l : List Ev) (k : Nat) (h : k < l.length) : l.take (k + 1) = l.take k ++ [evAt l k] := by
  rw [List.take_add_one, List.getElem?_eq_getElem h]
  unfold evAt
  simp [List.getD_eq_getElem?_getD, List.getElem?_eq_getElem h]
theorem getDE_mem (l : List Ev) (k : Nat) (h : k < l.length) : l.getD k ⟨0, 0, []⟩ ∈ l := by
  rw [List.getD_eq_getElem?_getD, List.getElem?_eq_getElem h]
  exact List.getElem_mem h
theorem do_other (e : Em) (C : Nat) (x : Ev) (h1 : ¬ x.k = 1) (h2 : ¬ x.k = 2) (h3 : ¬ x.k = 3) : doE e C x = e := by unfold doE; simp [h1, h2, h3]
theorem doAll_snoc (e : Em) (C : Nat) (l : List Ev) (k : Nat) (hk : k < l.length) : doAll e C (l.take (k + 1)) = doE (doAll e C (l.take k)) C (evAt l k) := by
  rw [take_snocE l k hk, doAll_append, doAll_cons, doAll_nil]
set_option maxHeartbeats 8000000 in
theorem edo_any (h : Emu w b L R C e) {B : Nat} (A : Option Addr) (n c : Nat) (es : List Ev) (hi : Evs B 56 .i32 w A es) (hn : es.length = n) (hm : n ≤ 1000000) (hl : Low B b L) (hB : B ≤ w.heap.size) (hbd : ∀ x ∈ es, EvB x) (hln : ∀ x ∈ es, x.n.length ≤ 1000000) :
    Calls Tryz.prog 21 #[.pointer (some ⟨b.E, 0, none⟩), .slice A n c] w (DoneE b L R C (doAll e C es) w) := by
  have hR1 := h.ok.g.r1
  have hR2 := h.ok.g.r2
  have hC1 := h.ok.g.c1
  have hC2 := h.ok.g.c2
  have HE := hide h
  have HI := hide hi
  have HN := hide hn
  have HLB := hide hl
  have HBD : Hid (∀ i, i < n → EvB (evAt es i)) := by unfold Hid; intro i hi; exact hbd _ (by unfold evAt; exact getDE_mem es i (by omega))
  have HLN : Hid (∀ i, i < n → (evAt es i).n.length ≤ 1000000) := by unfold Hid; intro i hi; exact hln _ (by unfold evAt; exact getDE_mem es i (by omega))
  clear h hi hn hl hbd hln
  go_enter Tryz.func21, Tryz.ntmps21
  go_wp2
  go_loopw [5, 10] (fun _ i wr => ∃ (k : Nat) (L1 : Nat), k ≤ n ∧ i = .int .i64 (k : Int) ∧ At b w L wr L1 R C (doAll e C (es.take k))) (fun _ i _ => n - (intOf i).toNat)
  case atStart => exact ⟨0, L, Nat.zero_le _, rfl, At.refl HE.out⟩
  case round =>
    obtain ⟨k, L1, hk, rfl, ha⟩ := hrel
    have HA := hide ha
    clear ha
    by_cases hlt : k < n
    · have HSN := hide (doAll_snoc e C es k (by rw [HN.out]; exact hlt))
      obtain ⟨e1, he1⟩ : ∃ e1, doAll e C (es.take k) = e1 := ⟨_, rfl⟩
      rw [he1] at HSN HA
      have HI1 := hide (HI.out.turn HE.out HA.out.ch HLB.out hB (by decide))
      have HLB1 : Hid (Low B b L1) := HLB.out.at HA.out hB
      have hB1 : B ≤ wr.heap.size := Nat.le_trans hB HA.out.ch.size
      obtain ⟨bb, off, A', c', rfl, hlt2, y0, y1, y2, hEA⟩ := HI1.out.at (i := k) (by rw [HN.out]; exact hlt)
      have hbk := HBD.out k hlt
      have HLNk := hide (HLN.out k hlt)
      obtain ⟨⟨kd, r, ns⟩, hev⟩ : ∃ x, evAt es k = x := ⟨_, rfl⟩
      rw [hev] at y0 y1 y2 hEA hbk HSN HLNk
      simp only at y0 y1 y2
      obtain ⟨m, hm2⟩ : ∃ m, ns.length = m := ⟨_, rfl⟩
      rw [hm2] at y2
      have HM2 := hide hm2
      have HIN : Hid (IntsT B 3 .i64 wr A' ns) := hEA
      have HR : Hid (R32 r) := hbk.r32
      obtain ⟨q, hq⟩ : ∃ q, wr.heap.size = q := ⟨_, rfl⟩
      obtain ⟨W0, hW0⟩ : ∃ W0, wr.alloc (.cells #[.int .i64 kd, .int .i32 r, .slice A' m c'] 56) = W0 := ⟨_, rfl⟩
      have HB0 : Hid (Below wr.heap.size wr W0) := by unfold Hid; rw [← hW0]; exact (Below.refl _ _).alloc (Nat.le_refl _) _
      have HX0 : Hid (Whole W0 q 56 [.int .i64 kd, .int .i32 r, .slice A' m c']) := by unfold Hid; rw [← hW0, ← hq]; exact Whole.new wr 56 [.int .i64 kd, .int .i32 r, .slice A' m c']
      have HW0 := hide hW0
      have HQ := hide hq
      have HE1 := hide (HA.out.emu.later HB0.out)
      have HA1 := hide (HA.out.later HB0.out)
      obtain ⟨x0, x1, x2, lX⟩ := cells3 HX0.out
      have HI2 := hide (HIN.out.below HB0.out hB1)
      have hB2 : B ≤ W0.heap.size := Nat.le_trans hB1 HB0.out.size
      have hm6 : m ≤ 1000000 := by have := HLNk.out; simp only at this; omega
      clear hW0 hev hEA hbk he1 hm2 hq
      by_cases k1 : kd = 1
      · subst k1
        go_wp2_with fail
        rw [HW0.out, HQ.out]
        refine (print_any HE1.out r HR.out).mono ?_
        rintro x k2 ⟨rfl, L2, ha⟩
        have HA2 : Hid (At b w L k2 L2 R C (doAll e C (es.take (k + 1)))) := by unfold Hid; rw [HSN.out]; exact (HA1.out.trans ha)
        clear ha x0 x1 x2 lX y0 y1 y2
        go_wp2
        go_roundw
        case rel => exact ⟨k + 1, L2, by omega, by go_num, HA2.out⟩
        case measure => simp [intOf]; omega
      · have q1 : (kd == 1) = false := by simp [k1]
        by_cases k2 : kd = 2
        · subst k2
          go_wp2_with fail
          rw [HW0.out, HQ.out]
          refine (control_any HE1.out r).mono ?_
          rintro x k2 ⟨rfl, L2, ha⟩
          have HA2 : Hid (At b w L k2 L2 R C (doAll e C (es.take (k + 1)))) := by unfold Hid; rw [HSN.out]; exact (HA1.out.trans ha)
          clear ha x0 x1 x2 lX y0 y1 y2
          go_wp2
          go_roundw
          case rel => exact ⟨k + 1, L2, by omega, by go_num, HA2.out⟩
          case measure => simp [intOf]; omega
        · have q2 : (kd == 2) = false := by simp [k2]
          by_cases k3 : kd = 3
          · subst k3
            go_wp2_with fail
            rw [HW0.out, HQ.out]
            refine (seq_any HE1.out 3 r A' m c' ns HI2.out HM2.out HLB1.out hB2 hm6).mono ?_
            rintro x k2 ⟨rfl, L2, ha⟩
            have HA2 : Hid (At b w L k2 L2 R C (doAll e C (es.take (k + 1)))) := by unfold Hid; rw [HSN.out]; exact (HA1.out.trans ha)
            clear ha x0 x1 x2 lX y0 y1 y2
            go_wp2
            go_roundw
            case rel => exact ⟨k + 1, L2, by omega, by go_num, HA2.out⟩
            case measure => simp [intOf]; omega
          · have q3 : (kd == 3) = false := by simp [k3]
            have HDO := hide (do_other e1 C ⟨kd, r, ns⟩ k1 k2 k3)
            have HA2 : Hid (At b w L W0 L1 R C (doAll e C (es.take (k + 1)))) := by unfold Hid; rw [HSN.out, HDO.out]; exact HA1.out
            clear k1 k2 k3
            go_wp2
            rw [HW0.out]
            go_roundw
            case rel => exact ⟨k + 1, L1, by omega, by go_num, HA2.out⟩
            case measure => simp [intOf]; omega
    · obtain rfl : k = n := by omega
      have HZ : Hid (es.take k = es) := by unfold Hid; exact List.take_of_length_le (by rw [HN.out]; exact Nat.le_refl _)
      rw [HZ.out] at HA
      go_wp2
      refine bodyPost_end (v := .tuple #[]) (by simp [results, Tryz.results21]) rfl ⟨rfl, _, HA.out⟩
end
end Go.Proofs.YtkijclgbpbhglaaGreatDoor

namespace Go.Proofs.YtkijclgbpbhglaaGreatDoor
set_option maxRecDepth 100000
open Go.ChangeShapes Go.WideShapes Go.ChangeAt Go.RowKit
set_option linter.unusedVariables false

theorem step_ns (p : Ps) (b : Int) : ∀ x ∈ (stepP p b).2, x.n.length ≤ 8 := by
  have hp : ∀ l : List Int, ∀ x ∈ prE l, x.n.length ≤ 8 := by
    intro l x hx
    unfold prE at hx
    obtain ⟨r, -, rfl⟩ := List.mem_map.1 hx
    simp
  have hbk : ∀ x ∈ brkE p.h, x.n.length ≤ 8 := by rw [brk_fl]; exact hp _
  have hap : ∀ e : Ev, e.n.length ≤ 8 → ∀ x ∈ brkE p.h ++ [e], x.n.length ≤ 8 := by
    intro e he x hx
    rcases List.mem_append.1 hx with q | q
    · exact hbk x q
    · simp only [List.mem_cons, List.not_mem_nil, or_false] at q
      rw [q]; exact he
  unfold stepP
  repeat' split
  all_goals first
    | exact hap _ (by simp)
    | exact hbk
    | exact hp _
    | (intro x hx; simp at hx; done)
    | (intro x hx; simp only [List.mem_cons, List.not_mem_nil, or_false] at hx; subst hx; simp only [List.length_take]; omega)
theorem feed_ns (bs : List Int) : ∀ p, ∀ x ∈ (feedP p bs).2, x.n.length ≤ 8 := by
  induction bs with
  | nil => intro p x hx; simp [feedP] at hx
  | cons b bs ih =>
    intro p x hx
    unfold feedP at hx
    rcases List.mem_append.1 hx with q | q
    · exact step_ns p b x q
    · exact ih _ x q
section
variable {w : World} {b : Bl} {L R C : Nat} {e : Em}
theorem byte1 {x : Int} (h : 0 ≤ x ∧ x ≤ 255) : Byte [x] := by intro y hy; simp only [List.mem_cons, List.not_mem_nil, or_false] at hy; rw [hy]; exact h
set_option maxHeartbeats 6000000 in
theorem efeed_gen (h : Emu w b L R C e) (A : Option Addr) (n c : Nat) (bs : List Int) (hi : ∀ wr, Ch (b.l L) w wr → Ints .u8 wr A bs) (hn : bs.length = n) (hby : Byte bs) (hm : n ≤ 1000000) :
    Calls Tryz.prog 17 #[.pointer (some ⟨b.E, 0, none⟩), .slice A n c] w (DoneE b L R C (feedE e C bs) w) := by
  have hR1 := h.ok.g.r1
  have hR2 := h.ok.g.r2
  have hC1 := h.ok.g.c1
  have hC2 := h.ok.g.c2
  have HE := hide h
  have HI := hide hi
  have HN := hide hn
  have HBY := hide hby
  clear h hi hn hby
  go_enter Tryz.func17, Tryz.ntmps17
  go_wp2
  go_loopw [5, 10] (fun _ i wr => ∃ (k : Nat) (L1 : Nat), k ≤ n ∧ i = .int .i64 (k : Int) ∧ At b w L wr L1 R C (feedE e C (bs.take k))) (fun _ i _ => n - (intOf i).toNat)
  case atStart => exact ⟨0, L, Nat.zero_le _, rfl, At.refl HE.out⟩
  case round =>
    obtain ⟨k, L1, hk, rfl, ha⟩ := hrel
    have HA := hide ha
    clear ha
    by_cases hlt : k < n
    · have HLT := hide hlt
      have HI1 := hide (HI.out wr HA.out.ch)
      obtain ⟨bb, off, rfl, hcell, hblt⟩ := HI1.out.at (i := k) (by rw [HN.out]; exact hlt)
      have hbr := HBY.out _ (getD_mem bs k (by rw [HN.out]; exact hlt))
      obtain ⟨x, hx⟩ : ∃ x, bs.getD k 0 = x := ⟨_, rfl⟩
      have HSN : Hid (feedE e C (bs.take (k + 1)) = feedE (feedE e C (bs.take k)) C [x]) := by unfold Hid; rw [take_snoc bs k x (by rw [HN.out]; exact hlt) hx, feedE_append]
      rw [hx] at hcell hbr
      have HB1 := hide (byte1 hbr)
      obtain ⟨e1, he1⟩ : ∃ e1, feedE e C (bs.take k) = e1 := ⟨_, rfl⟩
      rw [he1] at HSN HA
      have HE1 := hide HA.out.emu
      clear hx he1 hbr
      obtain ⟨c0, c1, c2, c3, c4, c5, lE⟩ := HE1.out.six
      obtain ⟨q, hq⟩ : ∃ q, wr.heap.size = q := ⟨_, rfl⟩
      obtain ⟨W0, hW0⟩ : ∃ W0, wr.alloc (.cells #[.int .u8 x] 5) = W0 := ⟨_, rfl⟩
      have HB0 : Hid (Below wr.heap.size wr W0) := by unfold Hid; rw [← hW0]; exact (Below.refl _ _).alloc (Nat.le_refl _) _
      have HX0 : Hid (IntsT 0 5 .u8 W0 (some ⟨q, 0, none⟩) [x]) := by unfold Hid; rw [← hW0, ← hq]; exact IntsT.new wr 5 [x]
      have HW0 := hide hW0
      have HQ := hide hq
      have HE2 := hide (HE1.out.later HB0.out)
      have HNP : Hid (∀ ad : Addr, (some ⟨q, 0, none⟩ : Option Addr) = some ad → 0 < 1 → ad.block ≠ b.P) := by
        unfold Hid
        intro ad hd _ hne
        cases hd
        have := HE1.out.lts.2.2.2.2
        simp only at hne
        omega
      obtain ⟨p', hp'⟩ : ∃ p', (feedP e1.p [x]).1 = p' := ⟨_, rfl⟩
      obtain ⟨es, hes⟩ : ∃ es, (feedP e1.p [x]).2 = es := ⟨_, rfl⟩
      have HOKP : Hid (PsOk p') := by unfold Hid; rw [← hp']; exact (feed_facts [x] e1.p HE1.out.ok.p HB1.out).1
      have HEB : Hid (∀ y ∈ es, EvB y) := by unfold Hid; rw [← hes]; exact feed_b [x] e1.p HE1.out.ok.p HB1.out
      have HEN : Hid (∀ y ∈ es, y.n.length ≤ 1000000) := by unfold Hid; rw [← hes]; intro y hy; exact Nat.le_trans (feed_ns [x] e1.p y hy) (by decide)
      have HEL : Hid (es.length ≤ 4) := by unfold Hid; rw [← hes]; exact (feed_facts [x] e1.p HE1.out.ok.p HB1.out).2.2
      have HFE : Hid (feedE e1 C [x] = doAll (setP e1 p') C es) := by unfold Hid feedE; rw [hp', hes, doAll_p]
      have HP' := hide hp'
      have HES := hide hes
      clear hW0 hq hp' hes
      go_wp2_with fail
      rw [HW0.out, HQ.out]
      refine (pfeed_any b.P e1.p [x] (some ⟨q, 0, none⟩) 1 1 W0 HE2.out.par HE1.out.ok.p HB1.out HX0.out.ints rfl (by omega) HNP.out).mono ?_
      rintro y w2 ⟨v, rfl, ho, hp, hf⟩
      rw [HP'.out] at hp
      rw [HES.out] at ho
      have HA2 := hide (HA.out.trans (At.first HB0.out (HE2.out.fr hp hf HOKP.out)))
      obtain ⟨A2, c2', rfl, hev, -, -, -⟩ := ho.form
      obtain ⟨n2, hn2⟩ : ∃ n2, es.length = n2 := ⟨_, rfl⟩
      rw [hn2]
      have HEV := hide hev
      have HN2 := hide hn2
      have hn4 : n2 ≤ 4 := by rw [← hn2]; exact HEL.out
      clear ho hp hf hev hn2 c0 c1 c2 c3 c4 c5 lE hcell
      go_wp2_with fail
      refine (edo_any HA2.out.emu A2 n2 c2' es HEV.out HN2.out (by omega) (B := 0) (fun _ _ => Nat.zero_le _) (Nat.zero_le _) HEB.out HEN.out).mono ?_
      rintro y w3 ⟨rfl, L3, ha⟩
      have HA3 : Hid (At b w L w3 L3 R C (feedE e C (bs.take (k + 1)))) := by unfold Hid; rw [HSN.out, HFE.out]; exact HA2.out.trans ha
      clear ha
      go_wp2
      go_roundw
      case rel => exact ⟨k + 1, L3, by have := HLT.out; omega, by have := HLT.out; go_num, HA3.out⟩
      case measure => have := HLT.out; simp [intOf]; omega
    · obtain rfl : k = n := by omega
      have HZ : Hid (bs.take k = bs) := by unfold Hid; exact List.take_of_length_le (by rw [HN.out]; exact Nat.le_refl _)
      rw [HZ.out] at HA
      go_wp2
      refine bodyPost_end (v := .tuple #[]) (by simp [results, Tryz.results17]) rfl ⟨rfl, _, HA.out⟩
theorem efeed_new (h : Emu w b L R C e) (q off : Nat) (n c : Nat) (bs : List Int) (hi : Ints .u8 w (some ⟨q, off, none⟩) bs) (hq : q ∉ b.l L) (hn : bs.length = n) (hby : Byte bs) (hm : n ≤ 1000000) :
    Calls Tryz.prog 17 #[.pointer (some ⟨b.E, 0, none⟩), .slice (some ⟨q, off, none⟩) n c] w (DoneE b L R C (feedE e C bs) w) :=
  efeed_gen h _ n c bs (fun wr hc => hc.ints hi (fun a ha _ => by cases ha; exact hq)) hn hby hm
end
end Go.Proofs.YtkijclgbpbhglaaGreatDoor

namespace Go.Proofs.YtkijclgbpbhglaaGreatDoor
set_option maxRecDepth 100000
open Go.ChangeShapes Go.WideShapes Go.ChangeAt Go.RowKit
set_option linter.unusedVariables false

section
variable {w : World} {b : Bl} {L R C : Nat} {e : Em}
/-- An emulator just made: all its blocks are new. -/
def MadeE (R C : Nat) (e : Em) (w : World) (b : Bl) (L : Nat) (w' : World) : Prop := Emu w' b L R C e ∧ Below w.heap.size w w' ∧ Low w.heap.size b L
theorem low_of {B : Nat} (h1 : B ≤ b.E) (h2 : B ≤ b.G) (h3 : B ≤ L) (h4 : B ≤ b.M) (h5 : B ≤ b.P) : Low B b L := by
  intro x hx
  simp only [Bl.l, List.mem_cons, List.not_mem_nil, or_false] at hx
  rcases hx with rfl | rfl | rfl | rfl | rfl <;> assumption
theorem Low.mono {B B' : Nat} (h : Low B b L) (hB : B' ≤ B) : Low B' b L := fun x hx => Nat.le_trans hB (h x hx)
set_option maxHeartbeats 2000000 in
theorem enew_yes (R C : Nat) (r1 : 1 ≤ R) (r2 : R ≤ 512) (c1 : 1 ≤ C) (c2 : C ≤ 512) (w : World) (hS : Spans w) :
    Calls Tryz.prog 9 #[.int .i64 (R : Int), .int .i64 (C : Int)] w fun x w' => ∃ b L, x = .returned (.tuple #[.pointer (some ⟨b.E, 0, none⟩), .int .i64 0]) ∧ MadeE R C (newE R C) w b L w' := by
  have HS := hide hS
  clear hS
  go_enter Tryz.func9, Tryz.ntmps9
  go_wp2_with fail
  refine (gnew_yes R C r1 r2 c1 c2 w).mono ?_
  rintro x w1 ⟨G, L, M, rfl, hg, hb, n1, n2, n3⟩
  have HM : Hid (MadeE R C (newE R C) w ⟨w1.heap.size + 1, G, M, w1.heap.size⟩ L ((w1.alloc (.cells #[.int .u8 0, .int .u8 0, .int .u8 0, .int .u8 0, .int .i64 0, .int .i64 0, .int .i64 0, .int .i64 0, .int .i64 0, .int .i64 0, .int .i64 0, .int .i64 0, .int .i64 0, .int .i64 0, .int .i64 0, .int .i64 0] 93)).alloc (.cells #[.pointer (some ⟨G, 0, none⟩), .pointer (some ⟨w1.heap.size, 0, none⟩), .int .u8 0, .int .u8 0, .int .u8 0, .bool false] 95))) := by
    have hb2 : Below w1.heap.size w1 ((w1.alloc (.cells #[.int .u8 0, .int .u8 0, .int .u8 0, .int .u8 0, .int .i64 0, .int .i64 0, .int .i64 0, .int .i64 0, .int .i64 0, .int .i64 0, .int .i64 0, .int .i64 0, .int .i64 0, .int .i64 0, .int .i64 0, .int .i64 0] 93)).alloc (.cells #[.pointer (some ⟨G, 0, none⟩), .pointer (some ⟨w1.heap.size, 0, none⟩), .int .u8 0, .int .u8 0, .int .u8 0, .bool false] 95)) := ((Below.refl _ _).alloc (Nat.le_refl _) _).alloc (by simp) _
    have hbb := hb.trans (hb2.mono hb.size)
    have hz := hb.size
    exact ⟨⟨whole_snd w1 _ 95 [.pointer (some ⟨G, 0, none⟩), .pointer (some ⟨w1.heap.size, 0, none⟩), .int .u8 0, .int .u8 0, .int .u8 0, .bool false], hg.later hb2, (Pr.new w1).later ((Below.refl _ _).alloc (Nat.le_refl _) _), new_ok R C r1 r2 c1 c2, HS.out.below hbb⟩, hbb, low_of (by show w.heap.size ≤ w1.heap.size + 1; omega) n1 n2 n3 hz⟩
  clear hg hb n1 n2 n3
  go_wp2
  go_ret2
  exact ⟨_, _, rfl, HM.out⟩
theorem enew_no (r c : Int) (h : ¬ sizeN r c) (w : World) : Calls Tryz.prog 9 #[.int .i64 r, .int .i64 c] w fun x w' => x = .returned (.tuple #[.pointer none, .int .i64 11]) ∧ w = w' := by
  go_enter Tryz.func9, Tryz.ntmps9
  go_wp2_with fail
  refine (gnew_no r c h w).mono ?_
  rintro x w1 ⟨rfl, rfl⟩
  go_wp2
  go_ret2
  exact ⟨rfl, rfl⟩
set_option maxHeartbeats 2000000 in
theorem egrid_any (h : Emu w b L R C e) : Calls Tryz.prog 20 #[.pointer (some ⟨b.E, 0, none⟩)] w (GaveG R C e.g w) := by
  have hR1 := h.ok.g.r1
  have hR2 := h.ok.g.r2
  have hC1 := h.ok.g.c1
  have hC2 := h.ok.g.c2
  obtain ⟨c0, c1, c2, c3, c4, c5, lE⟩ := h.six
  have HE := hide h
  clear h
  go_enter Tryz.func20, Tryz.ntmps20
  go_wp2_with fail
  refine (copy_any HE.out.grd hR1 hR2 hC1 hC2).mono ?_
  rintro x w1 ⟨G1, L1, M1, rfl, hn⟩
  have HN := hide hn
  clear hn c0 c1 c2 c3 c4 c5 lE
  go_wp2
  go_ret
  exact ⟨_, _, _, rfl, HN.out⟩
theorem epen_any (h : Emu w b L R C e) : Calls Tryz.prog 25 #[.pointer (some ⟨b.E, 0, none⟩)] w (Penned e.pen w) := by
  have hb := h.later ((Below.refl _ _).alloc (Nat.le_refl _) (.cells #[.int .u8 (0 : Int), .int .u8 (0 : Int), .int .u8 (0 : Int)] 65))
  obtain ⟨c0, c1, c2, c3, c4, c5, lE⟩ := hb.six
  clear h hb
  go_enter Tryz.func25, Tryz.ntmps25
  go_wp2
  exact ret3 Tryz.results25 (.inl rfl) rfl rfl (Whole.new w 65 [.int .u8 (e.pen.f : Int), .int .u8 (e.pen.g : Int), .int .u8 (e.pen.b : Int)]) ⟨rfl, (Below.refl _ _).alloc (Nat.le_refl _) _⟩
theorem ewrap_any (h : Emu w b L R C e) : Calls Tryz.prog 26 #[.pointer (some ⟨b.E, 0, none⟩)] w fun x w' => x = .returned (.bool e.wrap) ∧ w = w' := by
  obtain ⟨c0, c1, c2, c3, c4, c5, lE⟩ := h.six
  clear h
  go_enter Tryz.func26, Tryz.ntmps26
  go_wp2
  go_ret
  exact ⟨rfl, rfl⟩
theorem erest_any (h : Emu w b L R C e) (bo : Bool) (hbo : restP e.p = bo) : Calls Tryz.prog 27 #[.pointer (some ⟨b.E, 0, none⟩)] w (Said bo w) := by
  obtain ⟨c0, c1, c2, c3, c4, c5, lE⟩ := h.six
  have HE := hide h
  clear h
  go_enter Tryz.func27, Tryz.ntmps27
  go_wp2_with fail
  refine (prest_any HE.out.par bo hbo).mono ?_
  rintro x w1 ⟨rfl, hb⟩
  have HB := hide hb
  clear hb c0 c1 c2 c3 c4 c5 lE
  go_wp2
  go_ret
  exact ⟨rfl, HB.out⟩
end

/-! ### the nil emulator -/
theorem egrid_nil (w : World) : Calls Tryz.prog 20 #[.pointer none] w fun x w' => x = .returned (.pointer none) ∧ w = w' := by
  go_enter Tryz.func20, Tryz.ntmps20
  go_wp2
  go_ret
  exact ⟨rfl, rfl⟩
theorem ewrap_nil (w : World) : Calls Tryz.prog 26 #[.pointer none] w fun x w' => x = .returned (.bool false) ∧ w = w' := by
  go_enter Tryz.func26, Tryz.ntmps26
  go_wp2
  go_ret
  exact ⟨rfl, rfl⟩
theorem erest_nil (w : World) : Calls Tryz.prog 27 #[.pointer none] w fun x w' => x = .returned (.bool false) ∧ w = w' := by
  go_enter Tryz.func27, Tryz.ntmps27
  go_wp2
  go_ret
  exact ⟨rfl, rfl⟩
theorem ecopy_nil (w : World) : Calls Tryz.prog 15 #[.pointer none] w fun x w' => x = .returned (.pointer none) ∧ w = w' := by
  go_enter Tryz.func15, Tryz.ntmps15
  go_wp2
  go_ret
  exact ⟨rfl, rfl⟩
theorem eresize_nil (r c : Int) (w : World) : Calls Tryz.prog 13 #[.pointer none, .int .i64 r, .int .i64 c] w fun x w' => x = .returned (.int .i64 1) ∧ w = w' := by
  go_enter Tryz.func13, Tryz.ntmps13
  go_wp2
  go_ret
  exact ⟨rfl, rfl⟩
theorem efeed_nil (v : Value) (w : World) : Calls Tryz.prog 17 #[.pointer none, v] w fun x w' => x = .returned (.tuple #[]) ∧ w = w' := by
  go_enter Tryz.func17, Tryz.ntmps17
  go_wp2
  exact bodyPost_ret (v := .tuple #[]) (by simp [results, Tryz.results17]) rfl ⟨rfl, rfl⟩
theorem edo_nil (v : Value) (w : World) : Calls Tryz.prog 21 #[.pointer none, v] w fun x w' => x = .returned (.tuple #[]) ∧ w = w' := by
  go_enter Tryz.func21, Tryz.ntmps21
  go_wp2
  exact bodyPost_ret (v := .tuple #[]) (by simp [results, Tryz.results21]) rfl ⟨rfl, rfl⟩
theorem epen_nil (w : World) : Calls Tryz.prog 25 #[.pointer none] w (Penned zeroP w) := by
  go_enter Tryz.func25, Tryz.ntmps25
  go_wp2
  exact ret3 Tryz.results25 (.inl rfl) rfl rfl (Whole.new w 65 [.int .u8 (0 : Int), .int .u8 (0 : Int), .int .u8 (0 : Int)]) ⟨rfl, (Below.refl _ _).alloc (Nat.le_refl _) _⟩
end Go.Proofs.YtkijclgbpbhglaaGreatDoor

namespace Go.Proofs.YtkijclgbpbhglaaGreatDoor
set_option maxRecDepth 100000
set_option linter.unusedVariables false

theorem put_plain (l : List Cel) (k : Nat) (c : Cel) (hk : k < l.length) (h1 : ∀ i, i < l.length → (cAt l i).w = 1) (hc : rightC c = true) (hw : c.w = 1) : putC l (k : Int) c = l.set k c := by
  have ht : putTab l k c = l.set k c := by
    rw [set_tab]
    unfold putTab
    refine tab_eq fun i hi => ?_
    by_cases e : i = k
    · rw [if_pos e, if_pos e]
    · rw [if_neg e, if_neg e, if_neg (by omega)]
  have hw1 : ∀ i, i < l.length → wAt (l.set k c) i = 1 := by
    intro i hi
    rw [wAt_in _ _ (by simpa using hi), set_tab, tab_cAt _ _ _ hi]
    split
    · exact hw
    · exact h1 i hi
  have hm : mendC (l.set k c) = l.set k c := by
    unfold mendC
    conv => rhs; rw [← tab_self (l.set k c)]
    refine tab_eq fun i hi => ?_
    rw [mendAt_no]
    unfold aloneC
    rw [hw1 i (by simpa using hi)]
    simp
  unfold putC
  rw [if_pos, Int.toNat_natCast, ht, hm]
  unfold putOk
  rw [decide_eq_true_iff]
  exact ⟨hc, by omega, by omega, by rw [hw]; omega⟩
/-- A row in which k letters stand. -/
def rowL (C k : Nat) (xs : List Int) (p : Pn) : List Cel := tab C (fun i => if i < k then ⟨xs.getD i 0, 0, 0, 1, p⟩ else blankC zeroP)
def printG (R C row k : Nat) (xs : List Int) (p : Pn) : Gd := ⟨gtab R (fun r => if r = row then rowL C k xs p else newC (C : Int)), row, k⟩
theorem print_0 (R C row : Nat) (xs : List Int) (p : Pn) (hC : C ≤ 512) : printG R C row 0 xs p = ⟨(newG R C).ls, row, 0⟩ := by
  unfold printG newG
  congr 1
  refine gtab_eq fun i hi => ?_
  split
  · unfold rowL
    rw [newC_is C hC]
    exact tab_eq fun j _ => by simp
  · rfl
theorem typed_plain (e : Em) (C : Nat) (r : Int) (hr : wOf r = 1) (hw : e.wrap = false) (hc : e.g.col + 1 < C) : typedE e C r = { e with g := { putG e.g e.g.row e.g.col ⟨r, 0, 0, 1, e.pen⟩ with col := e.g.col + 1 }, wrap := false } := by
  have h1 : readyG e C 1 = e.g := by unfold readyG; rw [if_neg]; rw [hw]; simp; omega
  have h2 : (ofC r e.pen).1 = ⟨r, 0, 0, 1, e.pen⟩ := by unfold ofC; rw [if_pos hr]
  unfold typedE
  rw [hr, h1, h2, if_neg (by omega), if_neg (by omega), if_neg (by omega)]
  rfl
theorem print_step (R C row k : Nat) (xs : List Int) (p : Pn) (hrow : row < R) (hC : C ≤ 512) (hk : k + 1 < C) (r : Int) (hx : xs.getD k 0 = r) (hr : wOf r = 1) (hp : rightN p = true) (q : Ps) :
    typedE ⟨printG R C row k xs p, q, p, false⟩ C r = ⟨printG R C row (k + 1) xs p, q, p, false⟩ := by
  rw [typed_plain _ C r hr rfl hk]
  have hl : (rowL C k xs p).length = C := tab_len _ _
  have hrc : rightC ⟨r, 0, 0, 1, p⟩ = true := by
    have := right_of (r := r) hp (by unfold ofC; rw [if_pos hr])
    unfold ofC at this
    rw [if_pos hr] at this
    exact this
  have hput : putC (rowL C k xs p) (k : Int) ⟨r, 0, 0, 1, p⟩ = rowL C (k + 1) xs p := by
    rw [put_plain (rowL C k xs p) k ⟨r, 0, 0, 1, p⟩ (by rw [hl]; omega) ?_ hrc rfl]
    · unfold rowL
      rw [tab_set]
      refine tab_eq fun i hi => ?_
      by_cases e : i = k
      · subst e
        rw [if_pos rfl, if_pos (by omega), hx]
      · rw [if_neg e]
        by_cases e2 : i < k
        · rw [if_pos e2, if_pos (by omega)]
        · rw [if_neg e2, if_neg (by omega)]
    · intro i hi
      rw [hl] at hi
      unfold rowL
      rw [tab_cAt _ _ _ hi]
      split <;> rfl
  have hg : putG (printG R C row k xs p) (row : Int) (k : Int) ⟨r, 0, 0, 1, p⟩ = ⟨(printG R C row (k + 1) xs p).ls, row, k⟩ := by
    have hlen : (printG R C row k xs p).ls.length = R := gtab_len _ _
    have hat : lAt (printG R C row k xs p).ls row = rowL C k xs p := by
      unfold printG
      rw [gtab_lAt _ _ _ hrow, if_pos rfl]
    unfold putG
    rw [if_pos (by rw [hlen]; exact ⟨by omega, by omega⟩), Int.toNat_natCast, hat, hput]
    show (⟨_, row, k⟩ : Gd) = ⟨_, row, k⟩
    congr 1
    rw [set_gtab, hlen]
    unfold printG
    refine gtab_eq fun i hi => ?_
    by_cases e : i = row
    · rw [if_pos e, if_pos e]
    · rw [if_neg e, if_neg e, gtab_lAt _ _ _ hi, if_neg e]
  show (⟨{ putG (printG R C row k xs p) (row : Int) (k : Int) ⟨r, 0, 0, 1, p⟩ with col := k + 1 }, q, p, false⟩ : Em) = _
  rw [hg]
  rfl
/-- Letters, one by one. -/
theorem print_all (R C row : Nat) (xs : List Int) (p : Pn) (hrow : row < R) (hC : C ≤ 512) (hp : rightN p = true) (hx : ∀ r ∈ xs, wOf r = 1) (hn : xs.length < C) (q : Ps) : ∀ k, k ≤ xs.length →
    doAll ⟨printG R C row 0 xs p, q, p, false⟩ C (prE (xs.take k)) = ⟨printG R C row k xs p, q, p, false⟩ := by
  intro k
  induction k with
  | zero => intro _; rfl
  | succ k ih =>
    intro hk
    have hr : xs.getD k 0 ∈ xs := getD_mem xs k (by omega)
    rw [take_snoc xs k (xs.getD k 0) (by omega) rfl]
    have e : prE (xs.take k ++ [xs.getD k 0]) = prE (xs.take k) ++ [⟨1, xs.getD k 0, []⟩] := by simp [prE]
    rw [e, doAll_append, ih (by omega), doAll_cons, doAll_nil]
    show typedE _ C (xs.getD k 0) = _
    exact print_step R C row k xs p hrow hC (by omega) (xs.getD k 0) rfl (hx _ hr) hp q
/-- Letters are told as they are. -/
theorem feed_letters (q : Ps) (hs : q.st = 0) (hh : q.h = []) (xs : List Int) (hx : ∀ r ∈ xs, 97 ≤ r ∧ r ≤ 122) : feedP q xs = (q, prE xs) := by
  induction xs with
  | nil => rfl
  | cons b xs ih =>
    have hb := hx b (by simp)
    have hf : first [b] = (b, 1) := by
      have : b = 97 ∨ b = 98 ∨ b = 99 ∨ b = 100 ∨ b = 101 ∨ b = 102 ∨ b = 103 ∨ b = 104 ∨ b = 105 ∨ b = 106 ∨ b = 107 ∨ b = 108 ∨ b = 109 ∨ b = 110 ∨ b = 111 ∨ b = 112 ∨ b = 113 ∨ b = 114 ∨ b = 115 ∨ b = 116 ∨ b = 117 ∨ b = 118 ∨ b = 119 ∨ b = 120 ∨ b = 121 ∨ b = 122 := by omega
      rcases this with h | h | h | h | h | h | h | h | h | h | h | h | h | h | h | h | h | h | h | h | h | h | h | h | h | h <;> subst h <;> decide
    have hc : cut [b] = ([b], []) := by
      rw [cut_step (by rw [hf]; simp), hf]
      simp [cut_nil]
    have hst : stepP q b = (q, [⟨1, b, []⟩]) := by
      rw [step_take (by omega) (by omega) (.inr hs), hh, List.nil_append, hc]
      cases q
      simp only at hs hh
      subst hs hh
      rfl
    unfold feedP
    rw [hst]
    dsimp only
    rw [ih (fun r hr => hx r (by simp [hr]))]
    rfl
theorem wOf_letter (r : Int) (h0 : 97 ≤ r) (h1 : r ≤ 122) : wOf r = 1 := by
  have : r = 97 ∨ r = 98 ∨ r = 99 ∨ r = 100 ∨ r = 101 ∨ r = 102 ∨ r = 103 ∨ r = 104 ∨ r = 105 ∨ r = 106 ∨ r = 107 ∨ r = 108 ∨ r = 109 ∨ r = 110 ∨ r = 111 ∨ r = 112 ∨ r = 113 ∨ r = 114 ∨ r = 115 ∨ r = 116 ∨ r = 117 ∨ r = 118 ∨ r = 119 ∨ r = 120 ∨ r = 121 ∨ r = 122 := by omega
  rcases this with h | h | h | h | h | h | h | h | h | h | h | h | h | h | h | h | h | h | h | h | h | h | h | h | h | h <;> subst h <;> decide +kernel
end Go.Proofs.YtkijclgbpbhglaaGreatDoor

namespace Go.Proofs.YtkijclgbpbhglaaGreatDoor
set_option maxRecDepth 100000
set_option linter.unusedVariables false

def kE : Em := doAll (newE 2 3) 3 (prE [97, 98, 99, 100])
theorem kE_feed : feedE (newE 2 3) 3 [97, 98, 99, 100] = setP kE p0 := by
  unfold feedE
  rw [show (newE 2 3).p = p0 from rfl, feed_letters p0 rfl rfl [97, 98, 99, 100] (by intro r hr; simp at hr; omega)]
  rfl
theorem kE_row : kE.g.row = 1 := by decide +kernel
theorem kE_col : kE.g.col = 1 := by decide +kernel
theorem kE_0 : lAt kE.g.ls 0 = [⟨97, 0, 0, 1, zeroP⟩, ⟨98, 0, 0, 1, zeroP⟩, ⟨99, 0, 0, 1, zeroP⟩] := by decide +kernel
theorem kE_1 : lAt kE.g.ls 1 = [⟨100, 0, 0, 1, zeroP⟩, ⟨32, 0, 0, 1, zeroP⟩, ⟨32, 0, 0, 1, zeroP⟩] := by decide +kernel
end Go.Proofs.YtkijclgbpbhglaaGreatDoor
