/-
  Plain mathematics of layer 13 (frame): what is read of bytes with one more ahead is the same, one place on. No Go text, no program.
-/
import Derived.Test.YtcbdokocnjoilaaGreatDoorH20
namespace Go.Proofs.YtcbdokocnjoilaaGreatDoor
set_option maxRecDepth 100000
set_option linter.unusedVariables false

abbrev sh (s : Nat × Int) : Nat × Int := (s.1 + 1, s.2)
theorem sh_er (s : Nat × Int) : (sh s).2 = s.2 := rfl
theorem sh_at (s : Nat × Int) : (sh s).1 = s.1 + 1 := rfl
theorem num_sh (y : Int) (ys : List Int) (s : Nat × Int) : numD (y :: ys) (sh s) = (sh (numD ys s).1, (numD ys s).2) := by
  obtain ⟨t, E⟩ := s
  unfold numD nu_nAt nEr nVal sh
  by_cases q : E = 0
  · simp only [if_pos q, List.drop_succ_cons]
    refine Prod.ext (Prod.ext ?_ rfl) rfl
    show t + 1 + _ = t + _ + 1
    omega
  · simp only [if_neg q]
theorem up_sh (y : Int) (ys : List Int) (s : Nat × Int) (most er : Int) : upD (y :: ys) (sh s) most er = (sh (upD ys s most er).1, (upD ys s most er).2) := by
  have h := num_sh y ys s
  unfold numD at h
  have h1 : nu_nAt (y :: ys) (sh s).1 (sh s).2 = nu_nAt ys s.1 s.2 + 1 := congrArg (fun x : (Nat × Int) × Int => x.1.1) h
  have h2 : nEr (y :: ys) (sh s).1 (sh s).2 = nEr ys s.1 s.2 := congrArg (fun x : (Nat × Int) × Int => x.1.2) h
  have h3 : nVal (y :: ys) (sh s).1 (sh s).2 = nVal ys s.1 s.2 := congrArg (fun x : (Nat × Int) × Int => x.2) h
  unfold upD uAt uEr uVal
  rw [h1, h2, h3]
  by_cases q : nEr ys s.1 s.2 = 0 ∧ nu_over most (nVal ys s.1 s.2) = true
  · simp only [if_pos q]
  · simp only [if_neg q]
theorem pen_sh (y : Int) (ys : List Int) (s : Nat × Int) : penD (y :: ys) (sh s) = (sh (penD ys s).1, (penD ys s).2) := by
  unfold penD
  rw [num_sh]
  simp only
  by_cases q : (numD ys s).1.2 = 0 ∧ 16927 < (numD ys s).2
  · simp only [if_pos q]
  · simp only [if_neg q]
theorem marks_sh (y : Int) (ys : List Int) (s : Nat × Int) (k : Int) : marksD (y :: ys) (sh s) k = (sh (marksD ys s k).1, (marksD ys s k).2) := by
  unfold marksD
  by_cases q : k < 1
  · simp only [if_pos q]
  · by_cases q2 : k < 2
    · simp only [if_neg q, if_pos q2, up_sh]
    · simp only [if_neg q, if_neg q2, up_sh]
theorem one_sh (y : Int) (ys : List Int) (s : Nat × Int) : oneD (y :: ys) (sh s) = (sh (oneD ys s).1, (oneD ys s).2) := by
  unfold oneD
  simp only [up_sh, pen_sh, marks_sh]
  by_cases q : (upD ys s 2 5).2 = 0
  · simp only [if_pos q]
  · simp only [if_neg q]
theorem stepD_sh (y : Int) (ys : List Int) (i : Nat) (x : (Nat × Int) × List Cel) : stepD (y :: ys) i (sh x.1, x.2) = (sh (stepD ys i x).1, (stepD ys i x).2) := by
  unfold stepD
  simp only [up_sh, sh_er, sh_at]
  have e : (if (upD ys x.1 (512 - (x.2.length : Int)) 6).1.2 = 0 ∧ (upD ys x.1 (512 - (x.2.length : Int)) 6).2 = 0 then ((upD ys x.1 (512 - (x.2.length : Int)) 6).1.1 + 1, (3 : Int)) else sh (upD ys x.1 (512 - (x.2.length : Int)) 6).1)
      = sh (if (upD ys x.1 (512 - (x.2.length : Int)) 6).1.2 = 0 ∧ (upD ys x.1 (512 - (x.2.length : Int)) 6).2 = 0 then ((upD ys x.1 (512 - (x.2.length : Int)) 6).1.1, (3 : Int)) else (upD ys x.1 (512 - (x.2.length : Int)) 6).1) := by
    split <;> rfl
  rw [e]
  simp only [one_sh, sh_er, sh_at]
  generalize oneD ys _ = c
  by_cases q : c.1.2 = 0 ∧ (c.2.2 = false ∨ rightC c.2.1 = false ∨ 0 < i ∧ cAt x.2 (x.2.length - 1) = c.2.1)
  · simp only [if_pos q]
  · simp only [if_neg q]
theorem loop_sh (y : Int) (ys : List Int) (s : Nat × Int) (n : Nat) : loopD (y :: ys) (sh s) n = (sh (loopD ys s n).1, (loopD ys s n).2) := by
  induction n with
  | zero => rfl
  | succ i ih =>
    show (if (loopD (y :: ys) (sh s) i).1.2 = 0 then stepD (y :: ys) i (loopD (y :: ys) (sh s) i) else loopD (y :: ys) (sh s) i) = (sh (if (loopD ys s i).1.2 = 0 then stepD ys i (loopD ys s i) else loopD ys s i).1, (if (loopD ys s i).1.2 = 0 then stepD ys i (loopD ys s i) else loopD ys s i).2)
    rw [ih]
    simp only
    by_cases q : (loopD ys s i).1.2 = 0
    · rw [if_pos q, if_pos q]; exact stepD_sh y ys i _
    · rw [if_neg q, if_neg q]
theorem takeD_sh (y : Int) (ys : List Int) (s : Nat × Int) : takeD (y :: ys) (sh s) = (sh (takeD ys s).1, (takeD ys s).2) := by
  unfold takeD
  simp only [up_sh, loop_sh, sh_er]
  generalize loopD ys _ _ = b
  by_cases q : b.1.2 = 0
  · simp only [if_pos q]
  · simp only [if_neg q]
theorem span_sh (y : Int) (ys : List Int) (s : Nat × Int) : spanD (y :: ys) (sh s) = (sh (spanD ys s).1, (spanD ys s).2) := by
  unfold spanD
  simp only [up_sh, takeD_sh]
theorem dloop_sh (y : Int) (ys : List Int) (s : Nat × Int) (n : Nat) : dloopD (y :: ys) (sh s) n = (sh (dloopD ys s n).1, (dloopD ys s n).2) := by
  induction n with
  | zero => rfl
  | succ i ih =>
    show (if (dloopD (y :: ys) (sh s) i).1.2 = 0 then ((spanD (y :: ys) (dloopD (y :: ys) (sh s) i).1).1, (dloopD (y :: ys) (sh s) i).2 ++ [(spanD (y :: ys) (dloopD (y :: ys) (sh s) i).1).2]) else dloopD (y :: ys) (sh s) i)
      = (sh (if (dloopD ys s i).1.2 = 0 then ((spanD ys (dloopD ys s i).1).1, (dloopD ys s i).2 ++ [(spanD ys (dloopD ys s i).1).2]) else dloopD ys s i).1, (if (dloopD ys s i).1.2 = 0 then ((spanD ys (dloopD ys s i).1).1, (dloopD ys s i).2 ++ [(spanD ys (dloopD ys s i).1).2]) else dloopD ys s i).2)
    rw [ih]
    simp only [span_sh]
    by_cases q : (dloopD ys s i).1.2 = 0
    · rw [if_pos q, if_pos q]
    · rw [if_neg q, if_neg q]
theorem raw_sh (y : Int) (ys : List Int) (s : Nat × Int) : rawD (y :: ys) (sh s) = (sh (rawD ys s).1, (rawD ys s).2) := by
  unfold rawD
  simp only [up_sh, dloop_sh]
theorem takeDe_sh (y : Int) (ys : List Int) (s : Nat × Int) : takeDe (y :: ys) (sh s) = (sh (takeDe ys s).1, (takeDe ys s).2) := by
  unfold takeDe
  simp only [raw_sh, sh_er, sh_at]
theorem body_sh (y : Int) (ys : List Int) (s : Nat × Int) : bodyFm (y :: ys) (sh s) = (sh (bodyFm ys s).1, (bodyFm ys s).2) := by
  unfold bodyFm
  simp only [num_sh, takeDe_sh]
theorem dVal_sh (y : Int) (ys : List Int) (t : Nat) (E : Int) : dVal (y :: ys) (t + 1) E = dVal ys t E := by
  unfold dVal
  rw [List.length_cons]
  by_cases q : E = 0 ∧ t < ys.length
  · rw [if_pos q, if_pos ⟨q.1, by have := q.2; omega⟩]
  · rw [if_neg q, if_neg (fun z => q ⟨z.1, by have := z.2; omega⟩)]
theorem end_sh (y : Int) (ys : List Int) (x : (Nat × Int) × Fm) : endFm (y :: ys) (sh x.1, x.2) = endFm ys x := by
  unfold endFm
  simp only [dVal_sh]
/-- What is parsed, in words of the bytes behind the magic. -/
theorem parseFm_tail (ys : List Int) : parseFm (70 :: ys) = if 65536 < ys.length + 1 then (zeroFm, 2) else if endFm ys (bodyFm ys (0, 0)) = 0 then ((bodyFm ys (0, 0)).2, 0) else (zeroFm, endFm ys (bodyFm ys (0, 0))) := by
  have h : bodyFm (70 :: ys) (1, 0) = (sh (bodyFm ys (0, 0)).1, (bodyFm ys (0, 0)).2) := body_sh 70 ys (0, 0)
  unfold parseFm
  rw [h, end_sh, if_pos (show (70 :: ys).head? = some (70 : Int) from rfl)]
  rfl
end Go.Proofs.YtcbdokocnjoilaaGreatDoor
