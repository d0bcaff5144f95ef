/-
  Contract: the chapter's example (the law's known).
-/
import Derived.Test.YthogcfjlipaekaaDoorDeBytes
import Derived.Test.YthogcfjlipaekaaDoorB7
import Derived.Test.YthogcfjlipaekaaDoorB16
namespace Go.Proofs.YthogcfjlipaekaaDoor
set_option maxRecDepth 100000
open Go.ChangeShapes Go.WideShapes Go.ChangeAt Go.RowKit
set_option linter.unusedVariables false

def exD : Df := ⟨1, 2, 0, 1, [⟨0, 0, [⟨97, 0, 0, 1, ⟨0, 0, 0⟩⟩]⟩]⟩
theorem exD_one : exD.ss.length = 1 := rfl
theorem exD_check : checkDe exD = 0 := by decide +kernel
theorem exD_bytes : bytesDe exD = [1, 2, 0, 1, 1, 0, 0, 1, 1, 1, 0, 97, 0] := by decide +kernel
theorem exD_len : (bytesSs exD.ss).length ≤ 300000 := by decide +kernel
theorem exD_LB : ∀ s ∈ exD.ss, LB s.cs := by
  intro s hs
  simp only [exD, List.mem_cons, List.not_mem_nil, or_false] at hs
  subst hs
  exact all_LB (by decide +kernel)
set_option maxHeartbeats 1000000 in
theorem exD_bytes_any (W : World) (b : Nat) (h : Sps W.heap.size 63 79 .i32 W (some ⟨b, 0, none⟩) exD.ss) (hS : Spans W) :
    Calls Tryd.prog 9 #[.agg #[.int .i64 1, .int .i64 2, .int .i64 0, .int .i64 1, .slice (some ⟨b, 0, none⟩) 1 1]] W fun e w' => ∃ A c, e = .returned (.tuple #[.slice A 13 c, .int .i64 0]) ∧ Ints .u8 w' A [1, 2, 0, 1, 1, 0, 0, 1, 1, 1, 0, 97, 0] ∧ Below W.heap.size W w' := by
  have key := debytes_any W.heap.size 63 79 exD (some ⟨b, 0, none⟩) 1 1 W h (Nat.le_refl _) exD_one (by omega) exD_LB exD_len hS
  rw [show exD.rows = 1 from rfl, show exD.cols = 2 from rfl, show exD.row = 0 from rfl, show exD.col = 1 from rfl] at key
  unfold GaveDB at key
  rw [exD_check, exD_bytes] at key
  refine key.mono ?_
  rintro e w' ⟨v, he, ho⟩
  rw [if_pos rfl] at ho
  obtain ⟨A, c, hv, hi, -⟩ := ho.form2
  exact ⟨A, c, by rw [he, hv]; rfl, hi, ho.bel⟩
set_option maxHeartbeats 1000000 in
theorem deknown_any (w : World) (hS : Spans w) : Calls Tryd.prog 10 #[] w (Said true w) := by
  obtain ⟨W1, hW1⟩ : ∃ W1, w.alloc (.cells #[.int .i32 97, .int .i32 0, .int .i32 0, .int .u8 1, .int .u8 0, .int .u8 0, .int .u8 0] 79) = W1 := ⟨_, rfl⟩
  obtain ⟨W2, hW2⟩ : ∃ W2, W1.alloc (.cells #[.int .i64 0, .int .i64 0, .slice (some ⟨w.heap.size, 0, none⟩) 1 1] 63) = W2 := ⟨_, rfl⟩
  have hb1 : Below w.heap.size w W1 := by rw [← hW1]; exact new1W _ _
  have hb2 : Below W1.heap.size W1 W2 := by rw [← hW2]; exact new1W _ _
  have HB2 : Hid (Below w.heap.size w W2) := hb1.trans (hb2.mono hb1.size)
  have hc : Whole W2 w.heap.size 79 [.int .i32 97, .int .i32 0, .int .i32 0, .int .u8 1, .int .u8 0, .int .u8 0, .int .u8 0] := Whole.later (by rw [← hW1]; exact Whole.new w 79 [.int .i32 97, .int .i32 0, .int .i32 0, .int .u8 1, .int .u8 0, .int .u8 0, .int .u8 0]) hb2
  have hs : Whole W2 W1.heap.size 63 [.int .i64 0, .int .i64 0, .slice (some ⟨w.heap.size, 0, none⟩) 1 1] := by rw [← hW2]; exact Whole.new W1 63 [.int .i64 0, .int .i64 0, .slice (some ⟨w.heap.size, 0, none⟩) 1 1]
  have hz1 : W1.heap.size = w.heap.size + 1 := by rw [← hW1]; simp
  rw [hz1] at hs
  have hsp : Sps W2.heap.size 63 79 .i32 W2 (some ⟨w.heap.size + 1, 0, none⟩) exD.ss := by
    refine ⟨[⟨⟨0, 0, [⟨97, 0, 0, 1, ⟨0, 0, 0⟩⟩]⟩, some ⟨w.heap.size, 0, none⟩, 1⟩], rfl, ?_, .inr ⟨_, 0, rfl, .inl hs.lt, ?_⟩⟩
    · intro x hx
      simp only [List.mem_cons, List.not_mem_nil, or_false] at hx
      subst hx
      refine ⟨.inr ⟨_, 0, rfl, .inl hc.lt, ?_⟩, Nat.le_refl _, fun z => by cases z⟩
      intro j v hj
      rw [Nat.zero_add, hc.cell]
      exact hj
    · intro j v hj
      rw [Nat.zero_add, hs.cell]
      exact hj
  have KEY := hide (exD_bytes_any W2 (w.heap.size + 1) hsp (hS.below HB2.out))
  have HW1 := hide hW1
  have HW2 := hide hW2
  clear hW1 hW2 hb1 hb2 hc hs hsp hS hz1
  go_enter Tryd.func10, Tryd.ntmps10
  go_wp2_with fail
  rw [HW1.out, HW2.out]
  refine KEY.out.mono ?_
  rintro e w3 ⟨A3, c3, rfl, hi3, hb3⟩
  obtain ⟨W4, hW4⟩ : ∃ W4, w3.alloc (.cells #[.int .u8 1, .int .u8 2, .int .u8 0, .int .u8 1, .int .u8 1, .int .u8 0, .int .u8 0, .int .u8 1, .int .u8 1, .int .u8 1, .int .u8 0, .int .u8 97, .int .u8 0] 5) = W4 := ⟨_, rfl⟩
  have hb4 : Below w3.heap.size w3 W4 := by rw [← hW4]; exact new1W _ _
  have HL4 : Hid (Ints .u8 W4 (some ⟨w3.heap.size, 0, none⟩) [1, 2, 0, 1, 1, 0, 0, 1, 1, 1, 0, 97, 0]) := by unfold Hid; rw [← hW4]; exact Ints.new .u8 w3 5 [1, 2, 0, 1, 1, 0, 0, 1, 1, 1, 0, 97, 0]
  have HI4 := hide (hi3.below hb4)
  have HB4 := hide ((HB2.out.trans (hb3.mono HB2.out.size)).trans (hb4.mono (HB2.out.trans (hb3.mono HB2.out.size)).size))
  have HW4 := hide hW4
  clear hi3 hb3 hb4 hW4
  go_wp2_with fail
  rw [HW4.out]
  refine (nu_same_yes A3 _ 13 c3 13 [1, 2, 0, 1, 1, 0, 0, 1, 1, 1, 0, 97, 0] W4 HI4.out HL4.out rfl (by intro x hx; simp at hx; omega)).mono ?_
  rintro e w5 ⟨rfl, rfl⟩
  go_wp2
  go_ret
  exact ⟨rfl, HB4.out⟩
end Go.Proofs.YthogcfjlipaekaaDoor
