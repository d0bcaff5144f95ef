/-
  Contracts and plain mathematics of EDo, EFeed, EDoc6.
-/
import Derived.Test.YtkijclgbpbhglaaGreatDoorQd32
import Derived.Test.YtkijclgbpbhglaaGreatDoorQd26
import Derived.Test.YtkijclgbpbhglaaGreatDoorQd22
import Derived.Test.YtkijclgbpbhglaaGreatDoorQd28
namespace Go.Proofs.YtkijclgbpbhglaaGreatDoor
set_option maxRecDepth 100000
set_option linter.unusedVariables false
set_option maxHeartbeats 8000000
section
open Go.ChangeShapes Go.WideShapes Go.ChangeAt Go.RowKit
def seqEs : Array MapEntry := #[⟨.int .i32 65, .func (.func 149) #[] #[], 0⟩, ⟨.int .i32 66, .func (.func 150) #[] #[], 1⟩, ⟨.int .i32 67, .func (.func 151) #[] #[], 2⟩, ⟨.int .i32 68, .func (.func 152) #[] #[], 3⟩, ⟨.int .i32 72, .func (.func 153) #[] #[], 4⟩, ⟨.int .i32 74, .func (.func 154) #[] #[], 5⟩, ⟨.int .i32 75, .func (.func 155) #[] #[], 6⟩, ⟨.int .i32 109, .func (.func 156) #[] #[], 7⟩]
theorem run_insertW {P : Program} {w : World} {T K V : TypeId} {es : Array MapEntry} {clock : Nat} {q : IntKind} {z : Int} {v : Value} (ht : P.underlying T = some (.map K V)) (hk : P.underlying K = some (.int q)) (hn : Instr.findNow (.int q) (.int q z) es.toList 0 = some none) :
  (Instr.mapUpdate T (.map (some w.heap.size)) (.int q z) v).run P (w.alloc (.map es clock)) = .ok () (w.alloc (.map (es.push { key := .int q z, val := v, born := clock }) (clock + 1))) := by
 have hb := (Go.MapKept.heap_alloc w (.map es clock)).1
 rw [run_insertM ht hk hb hn]
 have hp : ∀ (a : Array Obj) (x y : Obj), (a.push x).setIfInBounds a.size y = a.push y := by
  intro a x y
  apply Array.ext_getElem?
  intro i
  rw [Array.getElem?_setIfInBounds, Array.getElem?_push, Array.getElem?_push, Array.size_push]
  by_cases h : a.size = i
  ·rw [if_pos h, if_pos (by omega), if_pos h.symm]
  ·rw [if_neg h, if_neg (fun q => h q.symm), if_neg (fun q => h q.symm)]
 show Result.ok () ({ w with heap := (w.heap.push _).setIfInBounds w.heap.size _ } : World) = _
 rw [hp]
 rfl
theorem seqs_any (w : World) : Calls Tryz.prog 102 #[] w fun x w' => ∃ q, x = .returned (.map (some q)) ∧ w'.heap[q]? = some (.map seqEs 8) ∧ Below w.heap.size w w' := by
 have h0 : (Instr.mapUpdate 160 (.map (some w.heap.size)) (.int .i32 65) (.func (.func 149) #[] #[])).run Tryz.prog (w.alloc (.map #[] 0)) = .ok () (w.alloc (.map #[⟨.int .i32 65, .func (.func 149) #[] #[], 0⟩] 1)) := run_insertW Tryz.underlying160 Tryz.underlying21 (by kernel_rfl)
 have h1 : (Instr.mapUpdate 160 (.map (some w.heap.size)) (.int .i32 66) (.func (.func 150) #[] #[])).run Tryz.prog (w.alloc (.map #[⟨.int .i32 65, .func (.func 149) #[] #[], 0⟩] 1)) = .ok () (w.alloc (.map #[⟨.int .i32 65, .func (.func 149) #[] #[], 0⟩, ⟨.int .i32 66, .func (.func 150) #[] #[], 1⟩] 2)) := run_insertW Tryz.underlying160 Tryz.underlying21 (by kernel_rfl)
 have h2 : (Instr.mapUpdate 160 (.map (some w.heap.size)) (.int .i32 67) (.func (.func 151) #[] #[])).run Tryz.prog (w.alloc (.map #[⟨.int .i32 65, .func (.func 149) #[] #[], 0⟩, ⟨.int .i32 66, .func (.func 150) #[] #[], 1⟩] 2)) = .ok () (w.alloc (.map #[⟨.int .i32 65, .func (.func 149) #[] #[], 0⟩, ⟨.int .i32 66, .func (.func 150) #[] #[], 1⟩, ⟨.int .i32 67, .func (.func 151) #[] #[], 2⟩] 3)) := run_insertW Tryz.underlying160 Tryz.underlying21 (by kernel_rfl)
 have h3 : (Instr.mapUpdate 160 (.map (some w.heap.size)) (.int .i32 68) (.func (.func 152) #[] #[])).run Tryz.prog (w.alloc (.map #[⟨.int .i32 65, .func (.func 149) #[] #[], 0⟩, ⟨.int .i32 66, .func (.func 150) #[] #[], 1⟩, ⟨.int .i32 67, .func (.func 151) #[] #[], 2⟩] 3)) = .ok () (w.alloc (.map #[⟨.int .i32 65, .func (.func 149) #[] #[], 0⟩, ⟨.int .i32 66, .func (.func 150) #[] #[], 1⟩, ⟨.int .i32 67, .func (.func 151) #[] #[], 2⟩, ⟨.int .i32 68, .func (.func 152) #[] #[], 3⟩] 4)) := run_insertW Tryz.underlying160 Tryz.underlying21 (by kernel_rfl)
 have h4 : (Instr.mapUpdate 160 (.map (some w.heap.size)) (.int .i32 72) (.func (.func 153) #[] #[])).run Tryz.prog (w.alloc (.map #[⟨.int .i32 65, .func (.func 149) #[] #[], 0⟩, ⟨.int .i32 66, .func (.func 150) #[] #[], 1⟩, ⟨.int .i32 67, .func (.func 151) #[] #[], 2⟩, ⟨.int .i32 68, .func (.func 152) #[] #[], 3⟩] 4)) = .ok () (w.alloc (.map #[⟨.int .i32 65, .func (.func 149) #[] #[], 0⟩, ⟨.int .i32 66, .func (.func 150) #[] #[], 1⟩, ⟨.int .i32 67, .func (.func 151) #[] #[], 2⟩, ⟨.int .i32 68, .func (.func 152) #[] #[], 3⟩, ⟨.int .i32 72, .func (.func 153) #[] #[], 4⟩] 5)) := run_insertW Tryz.underlying160 Tryz.underlying21 (by kernel_rfl)
 have h5 : (Instr.mapUpdate 160 (.map (some w.heap.size)) (.int .i32 74) (.func (.func 154) #[] #[])).run Tryz.prog (w.alloc (.map #[⟨.int .i32 65, .func (.func 149) #[] #[], 0⟩, ⟨.int .i32 66, .func (.func 150) #[] #[], 1⟩, ⟨.int .i32 67, .func (.func 151) #[] #[], 2⟩, ⟨.int .i32 68, .func (.func 152) #[] #[], 3⟩, ⟨.int .i32 72, .func (.func 153) #[] #[], 4⟩] 5)) = .ok () (w.alloc (.map #[⟨.int .i32 65, .func (.func 149) #[] #[], 0⟩, ⟨.int .i32 66, .func (.func 150) #[] #[], 1⟩, ⟨.int .i32 67, .func (.func 151) #[] #[], 2⟩, ⟨.int .i32 68, .func (.func 152) #[] #[], 3⟩, ⟨.int .i32 72, .func (.func 153) #[] #[], 4⟩, ⟨.int .i32 74, .func (.func 154) #[] #[], 5⟩] 6)) := run_insertW Tryz.underlying160 Tryz.underlying21 (by kernel_rfl)
 have h6 : (Instr.mapUpdate 160 (.map (some w.heap.size)) (.int .i32 75) (.func (.func 155) #[] #[])).run Tryz.prog (w.alloc (.map #[⟨.int .i32 65, .func (.func 149) #[] #[], 0⟩, ⟨.int .i32 66, .func (.func 150) #[] #[], 1⟩, ⟨.int .i32 67, .func (.func 151) #[] #[], 2⟩, ⟨.int .i32 68, .func (.func 152) #[] #[], 3⟩, ⟨.int .i32 72, .func (.func 153) #[] #[], 4⟩, ⟨.int .i32 74, .func (.func 154) #[] #[], 5⟩] 6)) = .ok () (w.alloc (.map #[⟨.int .i32 65, .func (.func 149) #[] #[], 0⟩, ⟨.int .i32 66, .func (.func 150) #[] #[], 1⟩, ⟨.int .i32 67, .func (.func 151) #[] #[], 2⟩, ⟨.int .i32 68, .func (.func 152) #[] #[], 3⟩, ⟨.int .i32 72, .func (.func 153) #[] #[], 4⟩, ⟨.int .i32 74, .func (.func 154) #[] #[], 5⟩, ⟨.int .i32 75, .func (.func 155) #[] #[], 6⟩] 7)) := run_insertW Tryz.underlying160 Tryz.underlying21 (by kernel_rfl)
 have h7 : (Instr.mapUpdate 160 (.map (some w.heap.size)) (.int .i32 109) (.func (.func 156) #[] #[])).run Tryz.prog (w.alloc (.map #[⟨.int .i32 65, .func (.func 149) #[] #[], 0⟩, ⟨.int .i32 66, .func (.func 150) #[] #[], 1⟩, ⟨.int .i32 67, .func (.func 151) #[] #[], 2⟩, ⟨.int .i32 68, .func (.func 152) #[] #[], 3⟩, ⟨.int .i32 72, .func (.func 153) #[] #[], 4⟩, ⟨.int .i32 74, .func (.func 154) #[] #[], 5⟩, ⟨.int .i32 75, .func (.func 155) #[] #[], 6⟩] 7)) = .ok () (w.alloc (.map #[⟨.int .i32 65, .func (.func 149) #[] #[], 0⟩, ⟨.int .i32 66, .func (.func 150) #[] #[], 1⟩, ⟨.int .i32 67, .func (.func 151) #[] #[], 2⟩, ⟨.int .i32 68, .func (.func 152) #[] #[], 3⟩, ⟨.int .i32 72, .func (.func 153) #[] #[], 4⟩, ⟨.int .i32 74, .func (.func 154) #[] #[], 5⟩, ⟨.int .i32 75, .func (.func 155) #[] #[], 6⟩, ⟨.int .i32 109, .func (.func 156) #[] #[], 7⟩] 8)) := run_insertW Tryz.underlying160 Tryz.underlying21 (by kernel_rfl)
 have hmk : (Instr.makeMap 160 none).run Tryz.prog w = .ok (.map (some w.heap.size)) (w.alloc (.map #[] 0)) := by simp [Instr.makeMap, Result.andThen]
 have HB : Hid (Below w.heap.size w (w.alloc (.map seqEs 8))) := (Below.refl _ _).alloc (Nat.le_refl _) _
 have HM : Hid ((w.alloc (.map seqEs 8)).heap[w.heap.size]? = some (.map seqEs 8)) := (Go.MapKept.heap_alloc w _).1
 go_enter Tryz.func102, Tryz.ntmps102
 go_wp2; go_ret
 exact ⟨_, rfl, HM.out, HB.out⟩
section
variable {w : World} {b : Bl} {L R C : Nat} {e : Em}
theorem seq_yes (h : Emu w b L R C e) (kd r : Int) (A : Option Addr) (n c : Nat) (ns : List Int) (f : FuncId) (i : Nat) (e2 : Em) (hfc : ∀ args w, (callFunc f args).run Tryz.prog w = .ok (.enter f args) w) (hn : Instr.findNow (.int .i32) (.int .i32 r) seqEs.toList 0 = some (some (i, .func (.func f) #[] #[])))
  (hf : ∀ w1, Below w.heap.size w w1 → ∀ args, args = #[.pointer (some ⟨b.E, 0, none⟩), .agg #[.int .i64 kd, .int .i32 r, .slice A n c]] → Calls Tryz.prog f args w1 (DoneE b L R C e2 w1)) :
  Calls Tryz.prog 52 #[.pointer (some ⟨b.E, 0, none⟩), .agg #[.int .i64 kd, .int .i32 r, .slice A n c]] w (DoneE b L R C e2 w) := by
 obtain ⟨W0, hW0⟩ := exq (w.alloc (.cells #[.int .i64 kd, .int .i32 r, .slice A n c] 56))
 have HB0 : Hid (Below w.heap.size w W0) := by unfold Hid; rw [← hW0]; exact (Below.refl _ _).alloc (Nat.le_refl _) _
 have HX0 : Hid (Whole W0 w.heap.size 56 [.int .i64 kd, .int .i32 r, .slice A n c]) := by unfold Hid; rw [← hW0]; exact Whole.new _ _ _
 have HW0 := hide hW0; clear hW0
 obtain ⟨x0, x1, x2, lX⟩ := cells3 HX0.out
 have HN := hide hn
 have HF := hide (fun w1 hb => hf w1 hb _ rfl)
 clear hn hf h
 go_enter Tryz.func52, Tryz.ntmps52
 go_wp2; rw [HW0.out]
 refine rgL (fun w' => Below W0.heap.size W0 w') 8 [(0, 1), (0, 2), (1, 0), (1, 3), (1, 4), (0, 5), (0, 7), (1, 6), (3, 8)] bd1 ?_
 refine stL (h := ?_)
 refine stL (hy := fun w hS => by obtain ⟨y0, y1, y2, -⟩ := cells3 (HX0.out.later hS); go_simp <;> with_reducible rfl) (h := ?_)
 refine alL fun K hK => ?_
 go_wp2_with fail
 refine (seqs_any _).mono ?_
 rintro x k1 ⟨q, rfl, hm, hb⟩
 have B1 : Below W0.heap.size W0 k1 := bd1.trans hb
 have hlk := run_lookM (T := 160) Tryz.underlying160 Tryz.underlying21 hm HN.out
 clear hb hm; go_wp2
 refine hK.out _ _ (B1) ?_
 clear hK K
 refine alL fun K hK => ?_
 go_wp2
 refine hK.out _ _ (B1) ?_
 clear hK K
 refine alL fun K hK => ?_
 go_wp2
 refine hK.out _ _ (B1) ?_
 clear hK K
 refine stL (h := ?_)
 refine stL (h := ?_)
 refine alL fun K hK => ?_
 go_wp2
 refine hK.out _ _ (B1) ?_
 clear hK K
 refine laL fun K hK => ?_
 go_wp2
 refine hK.out _ _ ?_
 clear hK K
 refine chainL_nil ?_
 clear x0 x1 x2 lX
 obtain ⟨x0, x1, x2, lX⟩ := cells3 (HX0.out.later B1)
 clear hlk; go_wp2_with fail
 refine (HF.out k1 (HB0.out.trans (B1.mono HB0.out.size))).mono ?_
 rintro x k2 ⟨rfl, L1, ha⟩
 have HA := hide (At.first (HB0.out.trans (B1.mono HB0.out.size)) ha)
 clear ha B1 x0 x1 x2 lX; go_wp2
 refine bodyPost_end (v := .tuple #[]) (by simp [results, Tryz.results52]) rfl ⟨rfl, _, HA.out⟩
theorem seq_no (h : Emu w b L R C e) (kd r : Int) (A : Option Addr) (n c : Nat) (ns : List Int) (hn : Instr.findNow (.int .i32) (.int .i32 r) seqEs.toList 0 = some none) :
  Calls Tryz.prog 52 #[.pointer (some ⟨b.E, 0, none⟩), .agg #[.int .i64 kd, .int .i32 r, .slice A n c]] w (DoneE b L R C e w) := by
 obtain ⟨W0, hW0⟩ := exq (w.alloc (.cells #[.int .i64 kd, .int .i32 r, .slice A n c] 56))
 have HB0 : Hid (Below w.heap.size w W0) := by unfold Hid; rw [← hW0]; exact (Below.refl _ _).alloc (Nat.le_refl _) _
 have HX0 : Hid (Whole W0 w.heap.size 56 [.int .i64 kd, .int .i32 r, .slice A n c]) := by unfold Hid; rw [← hW0]; exact Whole.new _ _ _
 have HW0 := hide hW0; clear hW0
 obtain ⟨x0, x1, x2, lX⟩ := cells3 HX0.out
 have HN := hide hn
 have HE := hide (h.later HB0.out)
 clear hn h
 go_enter Tryz.func52, Tryz.ntmps52
 go_wp2; rw [HW0.out]
 refine rgL (fun w' => Below W0.heap.size W0 w') 8 [(0, 1), (0, 2), (1, 0), (1, 3), (1, 4), (0, 5), (0, 7), (1, 6), (3, 8)] bd1 ?_
 refine stL (h := ?_)
 refine stL (hy := fun w hS => by obtain ⟨y0, y1, y2, -⟩ := cells3 (HX0.out.later hS); go_simp <;> with_reducible rfl) (h := ?_)
 refine alL fun K hK => ?_
 go_wp2_with fail
 refine (seqs_any _).mono ?_
 rintro x k1 ⟨q, rfl, hm, hb⟩
 have B1 : Below W0.heap.size W0 k1 := bd1.trans hb
 have hlk := run_lookM_no (T := 160) (v0 := .nilFunc) Tryz.underlying160 Tryz.underlying21 hm HN.out (by kernel_rfl)
 clear hb hm; go_wp2
 refine hK.out _ _ (B1) ?_
 clear hK K
 refine alL fun K hK => ?_
 go_wp2
 refine hK.out _ _ (B1) ?_
 clear hK K
 refine alL fun K hK => ?_
 go_wp2
 refine hK.out _ _ (B1) ?_
 clear hK K
 refine stL (h := ?_)
 refine stL (h := ?_)
 refine alL fun K hK => ?_
 go_wp2
 refine hK.out _ _ (B1) ?_
 clear hK K
 refine laL fun K hK => ?_
 go_wp2
 refine hK.out _ _ ?_
 clear hK K
 refine chainL_nil ?_
 clear hlk x0 x1 x2 lX
 have HA := hide (At.first HB0.out (At.first B1 (At.refl (HE.out.later B1))))
 clear B1; go_wp2
 refine bodyPost_end (v := .tuple #[]) (by simp [results, Tryz.results52]) rfl ⟨rfl, _, HA.out⟩
theorem find_no (r : Int) (h : ¬ r = 65 ∧ ¬ r = 66 ∧ ¬ r = 67 ∧ ¬ r = 68 ∧ ¬ r = 72 ∧ ¬ r = 74 ∧ ¬ r = 75 ∧ ¬ r = 109) : Instr.findNow (.int .i32) (.int .i32 r) seqEs.toList 0 = some none := by
 obtain ⟨h1, h2, h3, h4, h5, h6, h7, h8⟩ := h
 have q : ∀ k : Int, ¬ r = k → (r == k) = false := fun k hk => by simp [hk]
 simp [seqEs, Instr.findNow, Instr.sameNow, q _ h1, q _ h2, q _ h3, q _ h4, q _ h5, q _ h6, q _ h7, q _ h8]
theorem seq_any (h : Emu w b L R C e) (kd r : Int) (A : Option Addr) (n c : Nat) (ns : List Int) {B : Nat} (hi : IntsT B 3 .i64 w A ns) (hn : ns.length = n) (hl : Low B b L) (hB : B ≤ w.heap.size) (hm : n ≤ 1000000) :
  Calls Tryz.prog 52 #[.pointer (some ⟨b.E, 0, none⟩), .agg #[.int .i64 kd, .int .i32 r, .slice A n c]] w (DoneE b L R C (doE e C ⟨3, r, ns⟩) w) := by
 by_cases q65 : r = 65
 ·subst q65
  refine seq_yes h kd 65 A n c ns 149 0 _ (enter_of Tryz.func149 (by kernel_rfl) (by kernel_rfl)) (by kernel_rfl) (fun w1 hb args ha => ?_)
  subst ha
  exact eup_any (h.later hb) kd 65 A n c ns (hi.ints.below hb) hn
 by_cases q66 : r = 66
 ·subst q66
  refine seq_yes h kd 66 A n c ns 150 1 _ (enter_of Tryz.func150 (by kernel_rfl) (by kernel_rfl)) (by kernel_rfl) (fun w1 hb args ha => ?_)
  subst ha
  exact edown_any (h.later hb) kd 66 A n c ns (hi.ints.below hb) hn
 by_cases q67 : r = 67
 ·subst q67
  refine seq_yes h kd 67 A n c ns 151 2 _ (enter_of Tryz.func151 (by kernel_rfl) (by kernel_rfl)) (by kernel_rfl) (fun w1 hb args ha => ?_)
  subst ha
  exact eright_any (h.later hb) kd 67 A n c ns (hi.ints.below hb) hn
 by_cases q68 : r = 68
 ·subst q68
  refine seq_yes h kd 68 A n c ns 152 3 _ (enter_of Tryz.func152 (by kernel_rfl) (by kernel_rfl)) (by kernel_rfl) (fun w1 hb args ha => ?_)
  subst ha
  exact eleft_any (h.later hb) kd 68 A n c ns (hi.ints.below hb) hn
 by_cases q72 : r = 72
 ·subst q72
  refine seq_yes h kd 72 A n c ns 153 4 _ (enter_of Tryz.func153 (by kernel_rfl) (by kernel_rfl)) (by kernel_rfl) (fun w1 hb args ha => ?_)
  subst ha
  exact eplace_any (h.later hb) kd 72 A n c ns (hi.ints.below hb) hn
 by_cases q74 : r = 74
 ·subst q74
  refine seq_yes h kd 74 A n c ns 154 5 _ (enter_of Tryz.func154 (by kernel_rfl) (by kernel_rfl)) (by kernel_rfl) (fun w1 hb args ha => ?_)
  subst ha
  exact eerows_any (h.later hb) kd 74 A n c ns (hi.below hb hB) hn hl (Nat.le_trans hB hb.size)
 by_cases q75 : r = 75
 ·subst q75
  refine seq_yes h kd 75 A n c ns 155 6 _ (enter_of Tryz.func155 (by kernel_rfl) (by kernel_rfl)) (by kernel_rfl) (fun w1 hb args ha => ?_)
  subst ha
  exact erow_any (h.later hb) kd 75 A n c ns (hi.ints.below hb) hn
 by_cases q109 : r = 109
 ·subst q109
  refine seq_yes h kd 109 A n c ns 156 7 _ (enter_of Tryz.func156 (by kernel_rfl) (by kernel_rfl)) (by kernel_rfl) (fun w1 hb args ha => ?_)
  subst ha
  exact eturn_any (h.later hb) kd 109 A n c ns (hi.ints.below hb) hn hm
 have hd : doE e C ⟨3, r, ns⟩ = e := by unfold doE; simp [q65, q66, q67, q68, q72, q74, q75, q109]
 rw [hd]
 exact seq_no h kd r A n c ns (find_no r ⟨q65, q66, q67, q68, q72, q74, q75, q109⟩)
theorem take_snocE (l : List Ev) (k : Nat) (h : k < l.length) : l.take (k + 1) = l.take k ++ [evAt l k] := by
 rw [List.take_add_one, List.getElem?_eq_getElem h]
 unfold evAt
 simp [List.getD_eq_getElem?_getD, List.getElem?_eq_getElem h]
theorem getDE_mem (l : List Ev) (k : Nat) (h : k < l.length) : l.getD k ⟨0, 0, []⟩ ∈ l := by
 rw [List.getD_eq_getElem?_getD, List.getElem?_eq_getElem h]
 exact List.getElem_mem h
theorem do_other (e : Em) (C : Nat) (x : Ev) (h1 : ¬ x.k = 1) (h2 : ¬ x.k = 2) (h3 : ¬ x.k = 3) : doE e C x = e := by unfold doE; simp [h1, h2, h3]
theorem doAll_snoc (e : Em) (C : Nat) (l : List Ev) (k : Nat) (hk : k < l.length) : doAll e C (l.take (k + 1)) = doE (doAll e C (l.take k)) C (evAt l k) := by
 rw [take_snocE l k hk, doAll_append, doAll_cons, doAll_nil]
theorem edo_any (h : Emu w b L R C e) {B : Nat} (A : Option Addr) (n c : Nat) (es : List Ev) (hi : Evs B 56 .i32 w A es) (hn : es.length = n) (hm : n ≤ 1000000) (hl : Low B b L) (hB : B ≤ w.heap.size) (hbd : ∀ x ∈ es, EvB x) (hln : ∀ x ∈ es, x.n.length ≤ 1000000) :
  Calls Tryz.prog 21 #[.pointer (some ⟨b.E, 0, none⟩), .slice A n c] w (DoneE b L R C (doAll e C es) w) := by
 have hR1 := h.ok.g.r1
 have hR2 := h.ok.g.r2
 have hC1 := h.ok.g.c1
 have hC2 := h.ok.g.c2
 have HE := hide h; have HI := hide hi; have HN := hide hn; have HLB := hide hl
 have HBD : Hid (∀ i, i < n → EvB (evAt es i)) := by unfold Hid; intro i hi; exact hbd _ (by unfold evAt; exact getDE_mem es i (by omega))
 have HLN : Hid (∀ i, i < n → (evAt es i).n.length ≤ 1000000) := by unfold Hid; intro i hi; exact hln _ (by unfold evAt; exact getDE_mem es i (by omega))
 clear h hi hn hl hbd hln
 go_enter Tryz.func21, Tryz.ntmps21
 go_wp2
 go_loopw [5, 10] (fun _ i wr => ∃ (k : Nat) (L1 : Nat), k ≤ n ∧ i = .int .i64 k ∧ At b w L wr L1 R C (doAll e C (es.take k))) (fun _ i _ => n - (intOf i).toNat)
 case atStart => exact ⟨0, L, Nat.zero_le _, rfl, At.refl HE.out⟩
 case round =>
  obtain ⟨k, L1, hk, rfl, ha⟩ := hrel
  have HA := hide ha; clear ha
  by_cases hlt : k < n
  ·have HSN := hide (doAll_snoc e C es k (by rw [HN.out]; exact hlt))
   obtain ⟨e1, he1⟩ := exq (doAll e C (es.take k))
   rw [he1] at HSN HA
   have HI1 := hide (HI.out.turn HE.out HA.out.ch HLB.out hB (by decide))
   have HLB1 : Hid (Low B b L1) := HLB.out.at HA.out hB
   have hB1 : B ≤ wr.heap.size := Nat.le_trans hB HA.out.ch.size
   obtain ⟨bb, off, A', c', rfl, hlt2, y0, y1, y2, hEA⟩ := HI1.out.at (i := k) (by rw [HN.out]; exact hlt)
   have hbk := HBD.out k hlt
   have HLNk := hide (HLN.out k hlt)
   obtain ⟨⟨kd, r, ns⟩, hev⟩ : ∃ x, evAt es k = x := ⟨_, rfl⟩
   rw [hev] at y0 y1 y2 hEA hbk HSN HLNk
   simp only at y0 y1 y2
   obtain ⟨m, hm2⟩ := exq (ns.length)
   rw [hm2] at y2
   have HM2 := hide hm2
   have HIN : Hid (IntsT B 3 .i64 wr A' ns) := hEA
   have HR : Hid (R32 r) := hbk.r32
   obtain ⟨q, hq⟩ := exq (wr.heap.size)
   obtain ⟨W0, hW0⟩ := exq (wr.alloc (.cells #[.int .i64 kd, .int .i32 r, .slice A' m c'] 56))
   have HB0 : Hid (Below wr.heap.size wr W0) := by unfold Hid; rw [← hW0]; exact (Below.refl _ _).alloc (Nat.le_refl _) _
   have HX0 : Hid (Whole W0 q 56 [.int .i64 kd, .int .i32 r, .slice A' m c']) := by unfold Hid; rw [← hW0, ← hq]; exact Whole.new _ _ _
   have HW0 := hide hW0; have HQ := hide hq
   have HE1 := hide (HA.out.emu.later HB0.out)
   have HA1 := hide (HA.out.later HB0.out)
   obtain ⟨x0, x1, x2, lX⟩ := cells3 HX0.out
   have HI2 := hide (HIN.out.below HB0.out hB1)
   have hB2 : B ≤ W0.heap.size := Nat.le_trans hB1 HB0.out.size
   have hm6 : m ≤ 1000000 := by have := HLNk.out; simp only at this; omega
   clear hW0 hev hEA hbk he1 hm2 hq
   by_cases k1 : kd = 1
   ·subst k1
    go_wp2_with fail
    rw [HW0.out, HQ.out]
    refine (print_any HE1.out r HR.out).mono ?_
    rintro x k2 ⟨rfl, L2, ha⟩
    have HA2 : Hid (At b w L k2 L2 R C (doAll e C (es.take (k + 1)))) := by unfold Hid; rw [HSN.out]; exact (HA1.out.trans ha)
    clear ha x0 x1 x2 lX y0 y1 y2; go_wp2
    go_roundw
    case rel => exact ⟨k + 1, L2, by omega, by go_num, HA2.out⟩
    case measure => simp [intOf]; omega
   ·have q1 : (kd == 1) = false := by simp [k1]
    by_cases k2 : kd = 2
    ·subst k2
     go_wp2_with fail
     rw [HW0.out, HQ.out]
     refine (control_any HE1.out r).mono ?_
     rintro x k2 ⟨rfl, L2, ha⟩
     have HA2 : Hid (At b w L k2 L2 R C (doAll e C (es.take (k + 1)))) := by unfold Hid; rw [HSN.out]; exact (HA1.out.trans ha)
     clear ha x0 x1 x2 lX y0 y1 y2; go_wp2
     go_roundw
     case rel => exact ⟨k + 1, L2, by omega, by go_num, HA2.out⟩
     case measure => simp [intOf]; omega
    ·have q2 : (kd == 2) = false := by simp [k2]
     by_cases k3 : kd = 3
     ·subst k3
      go_wp2_with fail
      rw [HW0.out, HQ.out]
      refine (seq_any HE1.out 3 r A' m c' ns HI2.out HM2.out HLB1.out hB2 hm6).mono ?_
      rintro x k2 ⟨rfl, L2, ha⟩
      have HA2 : Hid (At b w L k2 L2 R C (doAll e C (es.take (k + 1)))) := by unfold Hid; rw [HSN.out]; exact (HA1.out.trans ha)
      clear ha x0 x1 x2 lX y0 y1 y2; go_wp2
      go_roundw
      case rel => exact ⟨k + 1, L2, by omega, by go_num, HA2.out⟩
      case measure => simp [intOf]; omega
     ·have q3 : (kd == 3) = false := by simp [k3]
      have HDO := hide (do_other e1 C ⟨kd, r, ns⟩ k1 k2 k3)
      have HA2 : Hid (At b w L W0 L1 R C (doAll e C (es.take (k + 1)))) := by unfold Hid; rw [HSN.out, HDO.out]; exact HA1.out
      clear k1 k2 k3; go_wp2; rw [HW0.out]
      go_roundw
      case rel => exact ⟨k + 1, L1, by omega, by go_num, HA2.out⟩
      case measure => simp [intOf]; omega
  ·obtain rfl : k = n := by omega
   have HZ : Hid (es.take k = es) := by unfold Hid; exact List.take_of_length_le (by rw [HN.out]; exact Nat.le_refl _)
   rw [HZ.out] at HA
   go_wp2
   refine bodyPost_end (v := .tuple #[]) (by simp [results, Tryz.results21]) rfl ⟨rfl, _, HA.out⟩
end
theorem step_ns (p : Ps) (b : Int) : ∀ x ∈ (stepP p b).2, x.n.length ≤ 8 := by
 have hp : ∀ l : List Int, ∀ x ∈ prE l, x.n.length ≤ 8 := by
  intro l x hx
  unfold prE at hx
  obtain ⟨r, -, rfl⟩ := List.mem_map.1 hx
  simp
 have hbk : ∀ x ∈ brkE p.h, x.n.length ≤ 8 := by rw [brk_fl]; exact hp _
 have hap : ∀ e : Ev, e.n.length ≤ 8 → ∀ x ∈ brkE p.h ++ [e], x.n.length ≤ 8 := by
  intro e he x hx
  rcases List.mem_append.1 hx with q | q
  ·exact hbk x q
  ·simp only [List.mem_cons, List.not_mem_nil, or_false] at q
   rw [q]; exact he
 unfold stepP
 repeat' split
 all_goals first
  | exact hap _ (by simp)
  | exact hbk
  | exact hp _
  | (intro x hx; simp at hx; done)
  | (intro x hx; simp only [List.mem_cons, List.not_mem_nil, or_false] at hx; subst hx; simp only [List.length_take]; omega)
theorem feed_ns (bs : List Int) : ∀ p, ∀ x ∈ (feedP p bs).2, x.n.length ≤ 8 := by
 induction bs with
 | nil => intro p x hx; simp [feedP] at hx
 | cons b bs ih =>
  intro p x hx
  unfold feedP at hx
  rcases List.mem_append.1 hx with q | q
  ·exact step_ns p b x q
  ·exact ih _ x q
section
variable {w : World} {b : Bl} {L R C : Nat} {e : Em}
theorem byte1 {x : Int} (h : 0 ≤ x ∧ x ≤ 255) : Byte [x] := by intro y hy; simp only [List.mem_cons, List.not_mem_nil, or_false] at hy; rw [hy]; exact h
theorem efeed_gen (h : Emu w b L R C e) (A : Option Addr) (n c : Nat) (bs : List Int) (hi : ∀ wr, Ch (b.l L) w wr → Ints .u8 wr A bs) (hn : bs.length = n) (hby : Byte bs) (hm : n ≤ 1000000) :
  Calls Tryz.prog 17 #[.pointer (some ⟨b.E, 0, none⟩), .slice A n c] w (DoneE b L R C (feedE e C bs) w) := by
 have hR1 := h.ok.g.r1
 have hR2 := h.ok.g.r2
 have hC1 := h.ok.g.c1
 have hC2 := h.ok.g.c2
 have HE := hide h; have HI := hide hi; have HN := hide hn; have HBY := hide hby; clear h hi hn hby
 go_enter Tryz.func17, Tryz.ntmps17
 go_wp2
 go_loopw [5, 10] (fun _ i wr => ∃ (k : Nat) (L1 : Nat), k ≤ n ∧ i = .int .i64 k ∧ At b w L wr L1 R C (feedE e C (bs.take k))) (fun _ i _ => n - (intOf i).toNat)
 case atStart => exact ⟨0, L, Nat.zero_le _, rfl, At.refl HE.out⟩
 case round =>
  obtain ⟨k, L1, hk, rfl, ha⟩ := hrel
  have HA := hide ha; clear ha
  by_cases hlt : k < n
  ·have HLT := hide hlt
   have HI1 := hide (HI.out wr HA.out.ch)
   obtain ⟨bb, off, rfl, hcell, hblt⟩ := HI1.out.at (i := k) (by rw [HN.out]; exact hlt)
   have hbr := HBY.out _ (getD_mem bs k (by rw [HN.out]; exact hlt))
   obtain ⟨x, hx⟩ := exq (bs.getD k 0)
   have HSN : Hid (feedE e C (bs.take (k + 1)) = feedE (feedE e C (bs.take k)) C [x]) := by unfold Hid; rw [take_snoc bs k x (by rw [HN.out]; exact hlt) hx, feedE_append]
   rw [hx] at hcell hbr
   have HB1 := hide (byte1 hbr)
   obtain ⟨e1, he1⟩ := exq (feedE e C (bs.take k))
   rw [he1] at HSN HA
   have HE1 := hide HA.out.emu; clear hx he1 hbr
   obtain ⟨c0, c1, c2, c3, c4, c5, lE⟩ := HE1.out.six
   obtain ⟨q, hq⟩ := exq (wr.heap.size)
   obtain ⟨W0, hW0⟩ := exq (wr.alloc (.cells #[.int .u8 x] 5))
   have HB0 : Hid (Below wr.heap.size wr W0) := by unfold Hid; rw [← hW0]; exact (Below.refl _ _).alloc (Nat.le_refl _) _
   have HX0 : Hid (IntsT 0 5 .u8 W0 (some ⟨q, 0, none⟩) [x]) := by unfold Hid; rw [← hW0, ← hq]; exact IntsT.new wr 5 [x]
   have HW0 := hide hW0; have HQ := hide hq
   have HE2 := hide (HE1.out.later HB0.out)
   have HNP : Hid (∀ ad : Addr, (some ⟨q, 0, none⟩ : Option Addr) = some ad → 0 < 1 → ad.block ≠ b.P) := by
    unfold Hid; intro ad hd _ hne
    cases hd
    have := HE1.out.lts.2.2.2.2
    simp only at hne
    omega
   obtain ⟨p', hp'⟩ := exq ((feedP e1.p [x]).1)
   obtain ⟨es, hes⟩ := exq ((feedP e1.p [x]).2)
   have HOKP : Hid (PsOk p') := by unfold Hid; rw [← hp']; exact (feed_facts [x] e1.p HE1.out.ok.p HB1.out).1
   have HEB : Hid (∀ y ∈ es, EvB y) := by unfold Hid; rw [← hes]; exact feed_b [x] e1.p HE1.out.ok.p HB1.out
   have HEN : Hid (∀ y ∈ es, y.n.length ≤ 1000000) := by unfold Hid; rw [← hes]; intro y hy; exact Nat.le_trans (feed_ns [x] e1.p y hy) (by decide)
   have HEL : Hid (es.length ≤ 4) := by unfold Hid; rw [← hes]; exact (feed_facts [x] e1.p HE1.out.ok.p HB1.out).2.2
   have HFE : Hid (feedE e1 C [x] = doAll (setP e1 p') C es) := by unfold Hid feedE; rw [hp', hes, doAll_p]
   have HP' := hide hp'
   have HES := hide hes; clear hW0 hq hp' hes; go_wp2_with fail
   rw [HW0.out, HQ.out]
   refine (pfeed_any b.P e1.p [x] (some ⟨q, 0, none⟩) 1 1 W0 HE2.out.par HE1.out.ok.p HB1.out HX0.out.ints rfl (by omega) HNP.out).mono ?_
   rintro y w2 ⟨v, rfl, ho, hp, hf⟩
   rw [HP'.out] at hp
   rw [HES.out] at ho
   have HA2 := hide (HA.out.trans (At.first HB0.out (HE2.out.fr hp hf HOKP.out)))
   obtain ⟨A2, c2', rfl, hev, -, -, -⟩ := ho.form
   obtain ⟨n2, hn2⟩ := exq (es.length)
   rw [hn2]
   have HEV := hide hev; have HN2 := hide hn2
   have hn4 : n2 ≤ 4 := by rw [← hn2]; exact HEL.out
   clear ho hp hf hev hn2 c0 c1 c2 c3 c4 c5 lE hcell; go_wp2_with fail
   refine (edo_any HA2.out.emu A2 n2 c2' es HEV.out HN2.out (by omega) (B := 0) (fun _ _ => Nat.zero_le _) (Nat.zero_le _) HEB.out HEN.out).mono ?_
   rintro y w3 ⟨rfl, L3, ha⟩
   have HA3 : Hid (At b w L w3 L3 R C (feedE e C (bs.take (k + 1)))) := by unfold Hid; rw [HSN.out, HFE.out]; exact HA2.out.trans ha
   clear ha; go_wp2
   go_roundw
   case rel => exact ⟨k + 1, L3, by have := HLT.out; omega, by have := HLT.out; go_num, HA3.out⟩
   case measure => have := HLT.out; simp [intOf]; omega
  ·obtain rfl : k = n := by omega
   have HZ : Hid (bs.take k = bs) := by unfold Hid; exact List.take_of_length_le (by rw [HN.out]; exact Nat.le_refl _)
   rw [HZ.out] at HA
   go_wp2
   refine bodyPost_end (v := .tuple #[]) (by simp [results, Tryz.results17]) rfl ⟨rfl, _, HA.out⟩
theorem efeed_new (h : Emu w b L R C e) (q off : Nat) (n c : Nat) (bs : List Int) (hi : Ints .u8 w (some ⟨q, off, none⟩) bs) (hq : q ∉ b.l L) (hn : bs.length = n) (hby : Byte bs) (hm : n ≤ 1000000) :
  Calls Tryz.prog 17 #[.pointer (some ⟨b.E, 0, none⟩), .slice (some ⟨q, off, none⟩) n c] w (DoneE b L R C (feedE e C bs) w) :=
 efeed_gen h _ n c bs (fun wr hc => hc.ints hi (fun a ha _ => by cases ha; exact hq)) hn hby hm
end
section
variable {w w' w1 : World} {d : Dv} {R C : Nat} {e : Em}
theorem redo_any (h : Doc w d e) (hok : EOk e R C) (kd r : Int) (A : Option Addr) (n c : Nat) (ns : List Int) (hi : Ints .i64 w A ns) (hn : ns.length = n) (hr : R32 r) (hn2 : n ≤ 1000) :
  Calls Tryz.prog 22 #[.agg #[.slice d.A R d.cap, .int .i64 e.g.row, .int .i64 e.g.col, .int .i64 e.p.st, .slice d.N d.ln d.cn, .slice d.H d.lh d.ch, .int .u8 e.pen.f, .int .u8 e.pen.g, .int .u8 e.pen.b, .bool e.wrap], .agg #[.int .i64 kd, .int .i64 r, .slice A n c]] w (GaveM R (doE e C ⟨kd, r, ns⟩) w) := by
 by_cases k3 : kd = 3
 ·subst k3
  by_cases q1 : r = 74
  ·exact redo_J h hok r A n c ns hi hn q1
  ·by_cases q2 : r = 75
   ·exact redo_K h hok r A n c ns hi hn q2
   ·by_cases q3 : r = 109
    ·subst q3; exact redo_turn h hok A n c ns hi hn hn2
    ·exact redo_plain h hok 3 r A n c ns hi hn hr (fun _ => ⟨q1, q2, q3⟩)
 ·exact redo_plain h hok kd r A n c ns hi hn hr (fun q => absurd q k3)
def Fed (w : World) (R : Nat) (q : Nat) (p1 : Ps) (AP : Option Addr) (lp1 cp1 : Nat) (AQ : Option Addr) (lq1 cq1 : Nat) (es : List Ev) (Ao : Option Addr) (no co : Nat) (ej : Em) (wr : World) (A5 : Option Addr) (cap5 : Nat) (N5 : Option Addr) (ln5 cn5 : Nat) (H5 : Option Addr) (lh5 ch5 : Nat) : Prop :=
 Whole wr w.heap.size 40 [.slice A5 R cap5, .int .i64 ej.g.row, .int .i64 ej.g.col, .int .i64 ej.p.st, .slice N5 ln5 cn5, .slice H5 lh5 ch5, .int .u8 ej.pen.f, .int .u8 ej.pen.g, .int .u8 ej.pen.b, .bool ej.wrap] ∧ Whole wr (w.heap.size + 1) 40 [.slice none 0 0, .int .i64 0, .int .i64 0, .int .i64 0, .slice none 0 0, .slice none 0 0, .int .u8 0, .int .u8 0, .int .u8 0, .bool false] ∧ Whole wr q 36 [.int .i64 p1.st, .slice AP lp1 cp1, .slice AQ lq1 cq1] ∧ Doc wr ⟨A5, cap5, N5, ln5, cn5, H5, lh5, ch5⟩ ej ∧ Dp wr p1 AP lp1 cp1 AQ lq1 cq1 ∧ Evo wr es Ao no co ∧ Below w.heap.size w wr
theorem refeed_any (h : Doc w d e) (hok : EOk e R C) (hln : d.ln ≤ 5000) (Ab : Option Addr) (n cb : Nat) (bs : List Int) (hi : Ints .u8 w Ab bs) (hn : bs.length = n) (hl : n ≤ 1000) (hby : Byte bs) :
  Calls Tryz.prog 18 #[.agg #[.slice d.A R d.cap, .int .i64 e.g.row, .int .i64 e.g.col, .int .i64 e.p.st, .slice d.N d.ln d.cn, .slice d.H d.lh d.ch, .int .u8 e.pen.f, .int .u8 e.pen.g, .int .u8 e.pen.b, .bool e.wrap], .slice Ab n cb] w (GaveM R (feedE e C bs) w) := by
 obtain ⟨W0, hW0⟩ := exq ((w.alloc (.cells #[.slice d.A R d.cap, .int .i64 e.g.row, .int .i64 e.g.col, .int .i64 e.p.st, .slice d.N d.ln d.cn, .slice d.H d.lh d.ch, .int .u8 e.pen.f, .int .u8 e.pen.g, .int .u8 e.pen.b, .bool e.wrap] 40)).alloc (.cells #[.slice none 0 0, .int .i64 0, .int .i64 0, .int .i64 0, .slice none 0 0, .slice none 0 0, .int .u8 0, .int .u8 0, .int .u8 0, .bool false] 40))
 have HB0 : Hid (Below w.heap.size w W0) := by unfold Hid; rw [← hW0]; exact two_new _ _ _ _ _
 have HP0 : Hid (Whole W0 w.heap.size 40 [.slice d.A R d.cap, .int .i64 e.g.row, .int .i64 e.g.col, .int .i64 e.p.st, .slice d.N d.ln d.cn, .slice d.H d.lh d.ch, .int .u8 e.pen.f, .int .u8 e.pen.g, .int .u8 e.pen.b, .bool e.wrap]) := by unfold Hid; rw [← hW0]; exact (Whole.new _ _ _).alloc _
 have HQ0 : Hid (Whole W0 (w.heap.size + 1) 40 [.slice none 0 0, .int .i64 0, .int .i64 0, .int .i64 0, .slice none 0 0, .slice none 0 0, .int .u8 0, .int .u8 0, .int .u8 0, .bool false]) := by unfold Hid; rw [← hW0]; exact whole_snd _ _ _ _
 have hs0 : W0.heap.size = w.heap.size + 1 + 1 := by rw [← hW0]; simp
 have HS0 := hide hs0; have HW0 := hide hW0
 have HD0 := hide (h.below HB0.out)
 have HOK := hide hok
 have HI := hide (hi.below HB0.out)
 have HN := hide hn; have HBY := hide hby; clear hW0 h hs0 hi hn hok hby
 have hne : ¬ w.heap.size = w.heap.size + 1 := by omega
 have hne2 : ¬ w.heap.size + 1 = w.heap.size := by omega
 obtain ⟨p1, hp1⟩ := exq ((feedP e.p bs).1)
 obtain ⟨es, hes⟩ := exq ((feedP e.p bs).2)
 have HEB : Hid (∀ x ∈ es, EvB x) := by unfold Hid; rw [← hes]; exact feed_b bs e.p HOK.out.p HBY.out
 have HEN : Hid (∀ x ∈ es, x.n.length ≤ 8) := by unfold Hid; rw [← hes]; exact feed_ns bs e.p
 have HEL : Hid (es.length ≤ 4000) := by unfold Hid; rw [← hes]; have := (feed_facts bs e.p HOK.out.p HBY.out).2.2; rw [HN.out] at this; omega
 have HFE : Hid (feedE e C bs = setP (doAll e C es) p1) := by unfold Hid feedE; rw [hp1, hes]
 have hpf := rpfeed_any e.p HOK.out.p d.N d.ln d.cn d.H d.lh d.ch W0 HD0.out.dp hln Ab n cb bs HI.out HN.out hl HBY.out
 rw [hp1, hes] at hpf
 clear hp1 hes
 go_enter Tryz.func18, Tryz.ntmps18
 go_wp2_with fail
 rw [HW0.out]
 refine hpf.mono ?_
 rintro x k1 ⟨AP, lp1, cp1, AQ, lq1, cq1, Ao, no, co, rfl, hdp, hev, hb⟩
 obtain ⟨q, hq⟩ := exq (k1.heap.size)
 obtain ⟨W1, hW1⟩ := exq (k1.alloc (.cells #[.int .i64 p1.st, .slice AP lp1 cp1, .slice AQ lq1 cq1] 36))
 have hb1 : Below k1.heap.size k1 W1 := by rw [← hW1]; exact new1W _ _
 have hbb : Below W0.heap.size W0 W1 := hb.trans (hb1.mono hb.size)
 have hqq : w.heap.size + 1 < q := by have := hb.size; have := HS0.out; omega
 have HF0 : Hid (Fed w R q p1 AP lp1 cp1 AQ lq1 cq1 es Ao no co e W1 d.A d.cap d.N d.ln d.cn d.H d.lh d.ch) := ⟨HP0.out.later hbb, HQ0.out.later hbb, by rw [← hW1, ← hq]; exact Whole.new k1 36 [.int .i64 p1.st, .slice AP lp1 cp1, .slice AQ lq1 cq1], HD0.out.below hbb, hdp.below hb1, hev.below hb1, HB0.out.trans (hbb.mono HB0.out.size)⟩
 have HNO : Hid (es.length = no) := hev.nl
 have hno4 : no ≤ 4000 := by rw [← HNO.out]; exact HEL.out
 have HW1 := hide hW1; have HQ := hide hq
 have hq1 : ¬ q = w.heap.size := by omega
 have hq2 : ¬ w.heap.size + 1 = q := by omega
 clear hpf hdp hev hb hb1 hbb hW1 hq hqq; go_wp2
 try rw [HW1.out, HQ.out]
 go_loopw [7] (fun i wr => ∃ (j : Nat) (A5 : Option Addr) (cap5 : Nat) (N5 : Option Addr) (ln5 cn5 : Nat) (H5 : Option Addr) (lh5 ch5 : Nat), j ≤ no ∧ i = .int .i64 j ∧ Fed w R q p1 AP lp1 cp1 AQ lq1 cq1 es Ao no co (doAll e C (es.take j)) wr A5 cap5 N5 ln5 cn5 H5 lh5 ch5) (fun i _ => no - (intOf i).toNat)
 case atStart => exact ⟨0, d.A, d.cap, d.N, d.ln, d.cn, d.H, d.lh, d.ch, Nat.zero_le _, rfl, HF0.out⟩
 case round =>
  obtain ⟨j, A5, cap5, N5, ln5, cn5, H5, lh5, ch5, hj, rfl, hf⟩ := hrel
  have HSN := hide (fun (q : j < no) => doAll_snoc e C es j (by rw [HNO.out]; exact q))
  have HOKJ : Hid (EOk (doAll e C (es.take j)) R C) := doAll_ok _ HOK.out (fun x hx => HEB.out x (List.mem_of_mem_take hx))
  obtain ⟨ej, hej⟩ := exq (doAll e C (es.take j))
  have HEJ := hide hej
  rw [hej] at hf HOKJ HSN
  have HF := hide hf; clear hf hej
  by_cases hlt : j < no
  ·have HLT := hide hlt
   have HSJ := hide (HSN.out hlt)
   obtain ⟨bb, off, A', c', rfl, hblt, y0, y1, y2, hEA⟩ := HF.out.2.2.2.2.2.1.e.at (i := j) (by rw [HNO.out]; exact hlt)
   have hmem := getDE_mem es j (by rw [HNO.out]; exact hlt)
   have hr32 := (HEB.out _ hmem).r32
   have hn8 := HEN.out _ hmem
   change R32 (evAt es j).r at hr32
   change (evAt es j).n.length ≤ 8 at hn8
   obtain ⟨⟨kd, r, ns⟩, hevj⟩ : ∃ x, evAt es j = x := ⟨_, rfl⟩
   rw [hevj] at y0 y1 y2 hEA HSJ hr32 hn8
   simp only at y0 y1 y2 hr32 hn8
   obtain ⟨m, hm⟩ := exq (ns.length)
   rw [hm] at y2 hn8
   have HM := hide hm; have HR := hide hr32
   have HIN : Hid (IntsT 0 3 .i64 wr A' ns) := hEA
   have HY : Hid (∀ W, Below wr.heap.size wr W → W.cell? ⟨bb, off + j * 3, none⟩ = some (.int .i64 kd) ∧ W.cell? ⟨bb, off + j * 3 + 1, none⟩ = some (.int .i64 r) ∧ W.cell? ⟨bb, off + j * 3 + 2, none⟩ = some (.slice A' m c')) := by
    unfold Hid; intro W hW
    exact ⟨(hW.cell (p := ⟨bb, off + j * 3, none⟩) hblt).trans y0, (hW.cell (p := ⟨bb, off + j * 3 + 1, none⟩) hblt).trans y1, (hW.cell (p := ⟨bb, off + j * 3 + 2, none⟩) hblt).trans y2⟩
   have hm8 : m ≤ 8 := hn8
   clear hm hr32 hEA hevj hmem hn8
   obtain ⟨t0, t1, t2, t3, t4, t5, t6, t7, t8, t9, lt⟩ := cells10 HF.out.1
   go_wp2
   refine rgL (fun w' => Below wr.heap.size wr w') 6 [(0, 1), (0, 2), (0, 3), (0, 0), (1, 4), (1, 5), (3, 6)] bd1 ?_
   iterate 3 refine stL (h := ?_)
   refine stL (hy := fun w hS => by obtain ⟨z0, z1, z2, z3, z4, z5, z6, z7, z8, z9, -⟩ := cells10 (HF.out.1.later hS); go_simp <;> with_reducible rfl) (h := ?_)
   refine alL fun K hK => ?_
   go_wp2
   refine hK.out _ _ bd1 ?_
   clear hK K
   refine alL fun K hK => ?_
   go_wp2_with fail
   have hdo := redo_any (HF.out.2.2.2.1.below bd1) HOKJ.out kd r A' m c' ns (HIN.out.ints.below bd1) HM.out HR.out (by omega)
   obtain ⟨en, hen⟩ := exq (doE ej C ⟨kd, r, ns⟩)
   have HSJ := hide (HSJ.out.trans hen)
   rw [hen] at hdo
   refine hdo.mono ?_
   rintro x k5 hx
   obtain ⟨A6, cap6, N6, ln6, cn6, H6, lh6, ch6, rfl, hd5, hb5⟩ := hx.lit
   have B5 : Below wr.heap.size wr k5 := bd1.trans hb5
   clear hdo hx hb5 hen; go_wp2
   refine hK.out _ _ (B5) ?_
   clear hK K
   refine laL fun K hK => ?_
   have hp5 := HF.out.1.later B5
   skip
   obtain ⟨W6, hW6⟩ := exq (((((((((((k5.setCell ⟨w.heap.size, 0, none⟩ (.slice A6 R cap6)).setCell ⟨w.heap.size, 1, none⟩ (.int .i64 en.g.row)).setCell ⟨w.heap.size, 2, none⟩ (.int .i64 en.g.col)).setCell ⟨w.heap.size, 3, none⟩ (.int .i64 en.p.st)).setCell ⟨w.heap.size, 4, none⟩ (.slice N6 ln6 cn6)).setCell ⟨w.heap.size, 5, none⟩ (.slice H6 lh6 ch6)).setCell ⟨w.heap.size, 6, none⟩ (.int .u8 en.pen.f)).setCell ⟨w.heap.size, 7, none⟩ (.int .u8 en.pen.g)).setCell ⟨w.heap.size, 8, none⟩ (.int .u8 en.pen.b)).setCell ⟨w.heap.size, 9, none⟩ (.bool en.wrap)))
   have ho6 : Only w.heap.size k5 W6 := by rw [← hW6]; exact only10 _ _ _ _ _ _ _ _ _ _
   have hq5 := HF.out.2.1.later B5
   have hx5 := HF.out.2.2.1.later B5
   have hbb5 := HF.out.2.2.2.2.2.2.trans (B5.mono HF.out.2.2.2.2.2.2.size)
   have hdp5 := HF.out.2.2.2.2.1.below B5
   have hev5 := HF.out.2.2.2.2.2.1.below B5
   have HF6 : Hid (Fed w R q p1 AP lp1 cp1 AQ lq1 cq1 es (some ⟨bb, off, none⟩) no co en W6 A6 cap6 N6 ln6 cn6 H6 lh6 ch6) := ⟨by rw [← hW6]; exact put10 hp5 _ _ _ _ _ _ _ _ _ _, hq5.same (ho6.block _ hq5.lt (by simp)), hx5.same (ho6.block _ hx5.lt (by simpa using hq1)), hd5.only ho6 hp5, hdp5.keep (.of_only ho6 hp5 (by decide)) (.of_only ho6 hp5 (by decide)), hev5.keep (.of_only ho6 hp5 (by decide)) (.of_only ho6 hp5 (by decide)), ho6.below hbb5 hbb5.size (Nat.le_refl _)⟩
   obtain ⟨r0, r1, r2, r3, r4, r5, r6, r7, r8, r9, lr⟩ := cells10 hp5
   have zp5 := hp5.frozen
   clear hp5 ho6 hq5 hx5 hbb5 hdp5 hev5 hd5 B5; go_wp2
   refine hK.out _ _ ?_
   clear hK K
   refine chainL_nil ?_
   go_wp2
   go_roundw
   case rel => exact ⟨j + 1, A6, cap6, N6, ln6, cn6, H6, lh6, ch6, by have := HLT.out; omega, by have := HLT.out; go_num, by rw [HSJ.out]; first | exact HF6.out | (rw [← hW6] at HF6; exact HF6.out)⟩
   case measure => have := HLT.out; simp [intOf]; omega
  ·obtain rfl : j = no := by omega
   have HZ : Hid (es.take j = es) := by unfold Hid; exact List.take_of_length_le (by rw [HNO.out]; exact Nat.le_refl _)
   have HT : Hid (feedE e C bs = setP ej p1) := by unfold Hid; rw [HFE.out, ← HEJ.out, HZ.out]
   have hp5 := HF.out.1
   have hq5 := HF.out.2.1
   have ho6 : Only w.heap.size wr (((wr.setCell ⟨w.heap.size, 3, none⟩ (.int .i64 p1.st)).setCell ⟨w.heap.size, 4, none⟩ (.slice AP lp1 cp1)).setCell ⟨w.heap.size, 5, none⟩ (.slice AQ lq1 cq1)) := (((Only.put 3 _).trans (Only.put 4 _)).trans (Only.put 5 _))
   have HB7 : Hid (Below w.heap.size w (((wr.setCell ⟨w.heap.size, 3, none⟩ (.int .i64 p1.st)).setCell ⟨w.heap.size, 4, none⟩ (.slice AP lp1 cp1)).setCell ⟨w.heap.size, 5, none⟩ (.slice AQ lq1 cq1))) := by unfold Hid; have hbb := HF.out.2.2.2.2.2.2; exact ho6.below hbb hbb.size (Nat.le_refl _)
   have HD7 : Hid (Doc (((wr.setCell ⟨w.heap.size, 3, none⟩ (.int .i64 p1.st)).setCell ⟨w.heap.size, 4, none⟩ (.slice AP lp1 cp1)).setCell ⟨w.heap.size, 5, none⟩ (.slice AQ lq1 cq1)) ⟨A5, cap5, AP, lp1, cp1, AQ, lq1, cq1⟩ (setP ej p1)) := ⟨HF.out.2.2.2.1.lns.only ho6 hp5, HF.out.2.2.2.2.1.keep (.of_only ho6 hp5 (by decide)) (.of_only ho6 hp5 (by decide))⟩
   have HQ7 : Hid (Whole (((wr.setCell ⟨w.heap.size, 3, none⟩ (.int .i64 p1.st)).setCell ⟨w.heap.size, 4, none⟩ (.slice AP lp1 cp1)).setCell ⟨w.heap.size, 5, none⟩ (.slice AQ lq1 cq1)) (w.heap.size + 1) 40 [.slice none 0 0, .int .i64 0, .int .i64 0, .int .i64 0, .slice none 0 0, .slice none 0 0, .int .u8 0, .int .u8 0, .int .u8 0, .bool false]) := ((hq5.other hne2).other hne2).other hne2
   obtain ⟨t0, t1, t2, t3, t4, t5, t6, t7, t8, t9, lt⟩ := cells10 hp5
   obtain ⟨r0, r1, r2, r3, r4, r5, r6, r7, r8, r9, lr⟩ := cells10 hq5
   obtain ⟨y0, y1, y2, ly⟩ := cells3 HF.out.2.2.1
   have zp := hp5.frozen
   have zq := hq5.frozen
   clear hp5 hq5 ho6; go_wp2
   rw [HT.out]
   exact retDoc (e := setP ej p1) Tryz.results18 rfl rfl HQ7.out ⟨A5, cap5, AP, lp1, cp1, AQ, lq1, cq1⟩ HD7.out HB7.out (by omega)
end
end
end Go.Proofs.YtkijclgbpbhglaaGreatDoor
