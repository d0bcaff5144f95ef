/-
  Contracts of the small functions: which numbers are scalars, a scalar's bytes (the document's), the order of bytes.
-/
import Derived.Test.YtlblkoijkaaciaaRows
import Derived.Test.YtlblkoijkaaciaaRow
import Derived.Test.YtlblkoijkaaciaaMem
import Derived.WalkMore
namespace Go.Proofs.Ytlblkoijkaaciaa
open Go.ChangeShapes Go.WideShapes Go.ChangeAt Go.RowKit
set_option linter.unusedVariables false

theorem ret_bool {a b : Bool} (h : a = b) : Ending.returned (.bool a) = .returned (.bool b) := by rw [h]
theorem info5 : (Try.prog.info? 5).map (fun i => (i.zero, i.size, i.bytes)) = some (some (.int .u8 0), 1, 1) := by kernel_rfl
theorem info21 : (Try.prog.info? 21).map (fun i => (i.zero, i.size, i.bytes)) = some (some (.int .i32 0), 1, 4) := by kernel_rfl
theorem info3 : (Try.prog.info? 3).map (fun i => (i.zero, i.size, i.bytes)) = some (some (.int .i64 0), 1, 8) := by kernel_rfl
theorem elem23 : Elem Try.prog 23 5 .u8 1 := ⟨Try.underlying23, info5⟩
theorem elem22 : Elem Try.prog 22 21 .i32 4 := ⟨Try.underlying22, info21⟩
theorem elem27 : Elem Try.prog 27 3 .i64 8 := ⟨Try.underlying27, info3⟩

/-- The call made a row of these numbers, and left all that was there. -/
def Made (t : TypeId) (k : IntKind) (w : World) (bs : List Int) (e : Ending) (w' : World) : Prop := ∃ v, e = .returned v ∧ Own t k w.heap.size w w' v bs

/-- A literal, just made. -/
theorem Own.lit (w : World) (e : TypeId) (k : IntKind) (zs : List Int) (n : Nat) (hn : zs.length = n) (hl : n ≤ 1000000) :
    Own e k w.heap.size w (w.alloc (.cells (zs.map (Value.int k)).toArray e)) (.slice (some ⟨w.heap.size, 0, none⟩) n n) zs := by
  subst hn
  refine ⟨⟨by simp, .inr ⟨w.heap.size, zs.length, (zs.map (Value.int k)).toArray, rfl, Nat.le_refl _, heap_alloc_new w _, Nat.le_refl _, by unfold maxLen; omega, by simp, ?_⟩⟩, (Below.refl _ _).alloc (Nat.le_refl _) _, by simp⟩
  simp [List.take_of_length_le]

set_option maxHeartbeats 400000 in
theorem rscalar_any (r : Int) (w : World) : Calls Try.prog 13 #[.int .i64 r] w fun e w' => e = .returned (.bool (isSc r)) ∧ w = w' := by
  have key : (r < 0 ∧ isSc r = false) ∨ (0 ≤ r ∧ 1114111 < r ∧ isSc r = false) ∨ (0 ≤ r ∧ r ≤ 1114111 ∧ r < 55296 ∧ isSc r = true) ∨ (0 ≤ r ∧ r ≤ 1114111 ∧ 55296 ≤ r ∧ r ≤ 57343 ∧ isSc r = false) ∨ (0 ≤ r ∧ r ≤ 1114111 ∧ 55296 ≤ r ∧ 57343 < r ∧ isSc r = true) := by
    unfold isSc; simp only [decide_eq_true_iff, decide_eq_false_iff_not]; omega
  rcases key with ⟨h1, h⟩ | ⟨h1, h2, h⟩ | ⟨h1, h2, h3, h⟩ | ⟨h1, h2, h3, h4, h⟩ | ⟨h1, h2, h3, h4, h⟩
  all_goals
    have H := hide h
    clear h
    go_enter Try.func13, Try.ntmps13
    go_wp2
    go_ret
    exact ⟨ret_bool (by first | exact H.out.symm | (rw [H.out]; simp; omega)), rfl⟩

set_option maxHeartbeats 400000 in
theorem scalar_any (r : Int) (w : World) : Calls Try.prog 12 #[.int .i32 r] w fun e w' => e = .returned (.bool (isSc r)) ∧ w = w' := by
  have key : (r < 0 ∧ r < 55296 ∧ isSc r = false) ∨ (0 ≤ r ∧ 1114111 < r ∧ 55296 ≤ r ∧ 57343 < r ∧ isSc r = false) ∨ (0 ≤ r ∧ r ≤ 1114111 ∧ r < 55296 ∧ isSc r = true) ∨ (0 ≤ r ∧ r ≤ 1114111 ∧ 55296 ≤ r ∧ r ≤ 57343 ∧ isSc r = false) ∨ (0 ≤ r ∧ r ≤ 1114111 ∧ 55296 ≤ r ∧ 57343 < r ∧ isSc r = true) := by
    unfold isSc; simp only [decide_eq_true_iff, decide_eq_false_iff_not]; omega
  rcases key with ⟨h1, h2, h⟩ | ⟨h1, h2, h3, h4, h⟩ | ⟨h1, h2, h3, h⟩ | ⟨h1, h2, h3, h4, h⟩ | ⟨h1, h2, h3, h4, h⟩
  all_goals
    have H := hide h
    clear h
    go_enter Try.func12, Try.ntmps12
    go_wp2
    go_ret
    exact ⟨ret_bool (by first | exact H.out.symm | (rw [H.out]; simp; omega)), rfl⟩

set_option maxHeartbeats 1000000 in
theorem rbytes_sc (r : Int) (w : World) (h : isSc r = true) : Calls Try.prog 25 #[.int .i64 r] w (Made 5 .u8 w (encS r)) := by
  have hb := (isSc_iff r).1 h
  obtain ⟨h0, h9, _⟩ := hb
  have hsc : isSc r = true := h
  by_cases h1 : r < 128
  · have E := hide (encS1 h1)
    go_enter Try.func25, Try.ntmps25
    go_wp2_with (go_at_call 13; refine (rscalar_any _ _).mono ?_; rintro e w' ⟨rfl, rfl⟩)
    go_ret
    exact ⟨_, rfl, by rw [E.out]; exact Own.lit w 5 .u8 [r] 1 rfl (by omega)⟩
  by_cases h2 : r < 2048
  · have E := hide (encS2 h1 h2)
    go_enter Try.func25, Try.ntmps25
    go_wp2_with (go_at_call 13; refine (rscalar_any _ _).mono ?_; rintro e w' ⟨rfl, rfl⟩)
    go_ret
    exact ⟨_, rfl, by rw [E.out]; exact Own.lit w 5 .u8 [_, _] 2 rfl (by omega)⟩
  by_cases h3 : r < 65536
  · have E := hide (encS3 h2 h3)
    go_enter Try.func25, Try.ntmps25
    go_wp2_with (go_at_call 13; refine (rscalar_any _ _).mono ?_; rintro e w' ⟨rfl, rfl⟩)
    go_ret
    exact ⟨_, rfl, by rw [E.out]; exact Own.lit w 5 .u8 [_, _, _] 3 rfl (by omega)⟩
  · have E := hide (encS4 h3)
    go_enter Try.func25, Try.ntmps25
    go_wp2_with (go_at_call 13; refine (rscalar_any _ _).mono ?_; rintro e w' ⟨rfl, rfl⟩)
    go_ret
    exact ⟨_, rfl, by rw [E.out]; exact Own.lit w 5 .u8 [_, _, _, _] 4 rfl (by omega)⟩

set_option maxHeartbeats 1000000 in
theorem rbytes_any (r : Int) (w : World) : Calls Try.prog 25 #[.int .i64 r] w (Made 5 .u8 w (encS (fix r))) := by
  by_cases h : isSc r = true
  · rw [fix_of r h]; exact rbytes_sc r w h
  · have h' : isSc r = false := by simpa using h
    have e : encS (fix r) = [239, 191, 189] := by unfold fix; rw [if_neg h]; decide
    have E := hide e
    clear e h
    go_enter Try.func25, Try.ntmps25
    go_wp2_with (go_at_call 13; refine (rscalar_any _ _).mono ?_; rintro e w' ⟨rfl, rfl⟩)
    go_ret
    exact ⟨_, rfl, by rw [E.out]; exact Own.lit w 5 .u8 [_, _, _] 3 rfl (by omega)⟩
end Go.Proofs.Ytlblkoijkaaciaa
