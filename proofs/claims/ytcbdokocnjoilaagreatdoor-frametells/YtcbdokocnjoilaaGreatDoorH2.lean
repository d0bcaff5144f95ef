/-
  Contracts and plain mathematics of RnMath, Row, CEq, CBase.
-/
import Derived.Test.YtcbdokocnjoilaaGreatDoorH1
import Derived.Test.YtcbdokocnjoilaaGreatDoorChecked
import Derived.Laws.StructEq
import Derived.ChangeKeysEq
import Derived.Lib.MinMax
namespace Go.Proofs.YtcbdokocnjoilaaGreatDoor
set_option maxRecDepth 100000
set_option linter.unusedVariables false
set_option maxHeartbeats 8000000
/-! ### runs -/
/-- How many runs the first k cells have. -/
def countTo (l : List Cel) : Nat → Nat
  | 0 => 0
  | k + 1 => countTo l k + (if k = 0 ∨ cAt l k ≠ cAt l (k - 1) then 1 else 0)
def countR (l : List Cel) : Nat := countTo l l.length
/-- The runs: how often, the cell. -/
def runsOf : List Cel → List (Nat × Cel)
  | [] => []
  | c :: l => match runsOf l with
    | [] => [(1, c)]
    | (k, d) :: r => if c = d then (k + 1, d) :: r else (1, c) :: (k, d) :: r
def marksOf (c : Cel) : List Int := (if c.m = 0 then [] else [c.m]) ++ (if c.n = 0 then [] else [c.n])
/-- A run's numbers. -/
def cellNums (c : Cel) : List Int := [(c.w : Int), numN c.p] ++ (if c.w = 0 then [] else [c.r, ((marksOf c).length : Int)] ++ marksOf c)
def numsR (k : Nat) (c : Cel) : List Int := (k : Int) :: cellNums c
def runBytes (l : List (Nat × Cel)) : List Int := l.flatMap fun x => encAll (numsR x.1 x.2)
def bytesR (l : List Cel) : List Int := enc (countR l) ++ runBytes (runsOf l)
def checkR (l : List Cel) : Int := if 512 < l.length then 2 else if l.all rightC then 0 else 1
def expandR (l : List (Nat × Cel)) : List Cel := l.flatMap fun x => List.replicate x.1 x.2
/-- Runs that may be: each once at least, no cell that of the one ahead. -/
def fineR : List (Nat × Cel) → Prop
  | [] => True
  | [x] => 1 ≤ x.1
  | x :: y :: r => 1 ≤ x.1 ∧ x.2 ≠ y.2 ∧ fineR (y :: r)

theorem runsOf_eq (c : Cel) (l : List Cel) : runsOf (c :: l) = match runsOf l with
    | [] => [(1, c)]
    | (k, d) :: r => if c = d then (k + 1, d) :: r else (1, c) :: (k, d) :: r := rfl
theorem runsOf_cons (c : Cel) (l : List Cel) : ∃ k r, runsOf (c :: l) = (k + 1, c) :: r := by
  unfold runsOf
  split
  · exact ⟨0, [], rfl⟩
  · rename_i k d r h
    split
    · rename_i q; subst q; exact ⟨k, r, rfl⟩
    · exact ⟨0, (k, d) :: r, rfl⟩
theorem expand_runs (l : List Cel) : expandR (runsOf l) = l := by
  induction l with
  | nil => rfl
  | cons c l ih =>
    unfold runsOf
    split
    · rename_i h; rw [h] at ih; unfold expandR at ih ⊢; simp at ih ⊢; exact ih
    · rename_i k d r h
      rw [h] at ih
      unfold expandR at ih ⊢
      split
      · rename_i q; subst q; simp only [List.flatMap_cons, List.replicate_succ, List.cons_append]; rw [← ih]; simp
      · simp only [List.flatMap_cons, List.replicate_succ, List.replicate_zero, List.cons_append, List.nil_append]; rw [← ih]; simp
theorem fine_tail {x : Nat × Cel} {l : List (Nat × Cel)} (h : fineR (x :: l)) : fineR l := by
  cases l with
  | nil => trivial
  | cons y r => exact h.2.2
theorem fine_one {x : Nat × Cel} {l : List (Nat × Cel)} (h : fineR (x :: l)) : 1 ≤ x.1 := by
  cases l with
  | nil => exact h
  | cons y r => exact h.1
theorem fine_runs (l : List Cel) : fineR (runsOf l) := by
  induction l with
  | nil => trivial
  | cons c l ih =>
    unfold runsOf
    split
    · exact Nat.le_refl 1
    · rename_i k d r h
      rw [h] at ih
      split
      · cases r with
        | nil => exact Nat.le_add_left 1 k
        | cons y r => exact ⟨Nat.le_add_left 1 k, ih.2.1, ih.2.2⟩
      · rename_i q
        exact ⟨Nat.le_refl 1, q, ih⟩
theorem runs_rep (k : Nat) (c : Cel) (l : List Cel) (h : ∀ d r j, runsOf l = (j, d) :: r → c ≠ d) : runsOf (List.replicate (k + 1) c ++ l) = (k + 1, c) :: runsOf l := by
  induction k with
  | zero =>
    show runsOf (c :: l) = (0 + 1, c) :: runsOf l
    rw [runsOf_eq]
    rcases q : runsOf l with _ | ⟨⟨j, d⟩, r⟩
    · rfl
    · simp only
      rw [if_neg (h d r j q)]
  | succ k ih =>
    rw [List.replicate_succ, List.cons_append]
    have : runsOf (c :: (List.replicate (k + 1) c ++ l)) = match runsOf (List.replicate (k + 1) c ++ l) with
      | [] => [(1, c)]
      | (k, d) :: r => if c = d then (k + 1, d) :: r else (1, c) :: (k, d) :: r := rfl
    rw [this, ih]
    simp
theorem runs_expand (l : List (Nat × Cel)) (h : fineR l) : runsOf (expandR l) = l := by
  induction l with
  | nil => rfl
  | cons x l ih =>
    have ih := ih (fine_tail h)
    obtain ⟨k, c⟩ := x
    have h1 := fine_one h
    obtain ⟨j, rfl⟩ : ∃ j, k = j + 1 := ⟨k - 1, by simp only at h1; omega⟩
    show runsOf (List.replicate (j + 1) c ++ expandR l) = _
    rw [runs_rep, ih]
    intro d r i q
    rw [ih] at q
    subst q
    exact h.2.1
theorem count_cons (c : Cel) (l : List Cel) : ∀ k, countTo (c :: l) (k + 1) = 1 + countTo l k - (if k = 0 then 0 else if c = cAt l 0 then 1 else 0) := by
  intro k
  induction k with
  | zero => simp [countTo]
  | succ k ih =>
    have e1 : countTo (c :: l) (k + 1 + 1) = countTo (c :: l) (k + 1) + (if k + 1 = 0 ∨ cAt (c :: l) (k + 1) ≠ cAt (c :: l) (k + 1 - 1) then 1 else 0) := rfl
    have e2 : countTo l (k + 1) = countTo l k + (if k = 0 ∨ cAt l k ≠ cAt l (k - 1) then 1 else 0) := rfl
    have c1 : cAt (c :: l) (k + 1) = cAt l k := rfl
    rw [e1, ih, e2, c1]
    by_cases hk : k = 0
    · subst hk
      have c0 : cAt (c :: l) (0 + 1 - 1) = c := rfl
      rw [c0]
      by_cases q : c = cAt l 0
      · simp [countTo, q]
      · have q' : cAt l 0 ≠ c := fun z => q z.symm
        simp [countTo, q, q']
    · obtain ⟨j, rfl⟩ : ∃ j, k = j + 1 := ⟨k - 1, by omega⟩
      have c2 : cAt (c :: l) (j + 1 + 1 - 1) = cAt l (j + 1 - 1) := rfl
      rw [c2]
      have hp : 1 ≤ countTo l (j + 1) := by
        have : ∀ m, 1 ≤ countTo l (m + 1) := by
          intro m
          induction m with
          | zero => simp [countTo]
          | succ m im => have e : countTo l (m + 1 + 1) = countTo l (m + 1) + (if m + 1 = 0 ∨ cAt l (m + 1) ≠ cAt l (m + 1 - 1) then 1 else 0) := rfl; rw [e]; omega
        exact this j
      simp only [Nat.add_eq_zero_iff, Nat.one_ne_zero, and_false, false_or, if_false]
      split <;> split <;> omega
theorem runs_count (l : List Cel) : (runsOf l).length = countR l := by
  unfold countR
  induction l with
  | nil => rfl
  | cons c l ih =>
    rw [List.length_cons, count_cons, ← ih]
    cases l with
    | nil => rfl
    | cons d l =>
      obtain ⟨k, r, hk⟩ := runsOf_cons d l
      have e : runsOf (c :: d :: l) = match runsOf (d :: l) with
        | [] => [(1, c)]
        | (k, d) :: r => if c = d then (k + 1, d) :: r else (1, c) :: (k, d) :: r := rfl
      rw [e, hk]
      have c0 : cAt (d :: l) 0 = d := rfl
      simp only [List.length_cons, Nat.add_eq_zero_iff, Nat.one_ne_zero, and_false, if_false, c0]
      by_cases q : c = d
      · simp [q]
      · simp [q]; omega
/-- The run that begins at a place. -/
theorem runs_drop (l : List Cel) (i j : Nat) (h1 : i < j) (h2 : j ≤ l.length) (h3 : ∀ q, i ≤ q → q < j → cAt l q = cAt l i) (h4 : j = l.length ∨ cAt l j ≠ cAt l i) : runsOf (l.drop i) = (j - i, cAt l i) :: runsOf (l.drop j) := by
  have e : l.drop i = List.replicate (j - i) (cAt l i) ++ l.drop j := by
    have a : l.drop i = (l.drop i).take (j - i) ++ l.drop j := by
      have := (List.take_append_drop (j - i) (l.drop i)).symm
      rw [List.drop_drop, show i + (j - i) = j by omega] at this
      exact this
    rw [a]
    congr 1
    apply List.ext_getElem
    · simp; omega
    · intro n p1 p2
      simp only [List.length_replicate] at p2
      have := h3 (i + n) (by omega) (by omega)
      unfold cAt at this
      rw [List.getD_eq_getElem?_getD, List.getElem?_eq_getElem (by omega)] at this
      simp only [Option.getD_some] at this
      simp [this, cAt]
  obtain ⟨k, hk⟩ : ∃ k, j - i = k + 1 := ⟨j - i - 1, by omega⟩
  rw [e, hk, runs_rep]
  intro d r n q
  rcases h4 with h4 | h4
  · rw [h4, List.drop_length] at q
    cases q
  · have hj : j < l.length := by
      rcases Nat.lt_or_ge j l.length with z | z
      · exact z
      · rw [List.drop_eq_nil_of_le z] at q; cases q
    have e2 : l.drop j = cAt l j :: l.drop (j + 1) := by
      rw [List.drop_eq_getElem_cons hj]
      congr 1
      unfold cAt
      rw [List.getD_eq_getElem?_getD, List.getElem?_eq_getElem hj]
      rfl
    obtain ⟨k', r', hk'⟩ := runsOf_cons (cAt l j) (l.drop (j + 1))
    rw [e2, hk'] at q
    cases q
    exact fun z => h4 z.symm
theorem runBytes_cons (x : Nat × Cel) (l : List (Nat × Cel)) : runBytes (x :: l) = encAll (numsR x.1 x.2) ++ runBytes l := rfl
theorem runBytes_append (a b : List (Nat × Cel)) : runBytes (a ++ b) = runBytes a ++ runBytes b := by unfold runBytes; simp

/-! ### reading -/
/-- A number that may be so great. -/
def upD (xs : List Int) (s : Nat × Int) (most er : Int) : (Nat × Int) × Int := ((uAt xs s.1 s.2 most, uEr xs s.1 s.2 most er), uVal xs s.1 s.2 most)
def numD (xs : List Int) (s : Nat × Int) : (Nat × Int) × Int := ((nu_nAt xs s.1 s.2, nEr xs s.1 s.2), nVal xs s.1 s.2)
/-- A pen's number. -/
def penD (xs : List Int) (s : Nat × Int) : (Nat × Int) × Pn :=
  if (numD xs s).1.2 = 0 ∧ 16927 < (numD xs s).2 then (((numD xs s).1.1, 5), (ofN 0).1)
  else (((numD xs s).1.1, if (ofN (numD xs s).2).2 = true then (numD xs s).1.2 else fEr (numD xs s).1.2 5), (ofN (numD xs s).2).1)
/-- So many marks: the marks, and whether none of them is 0. -/
def marksD (xs : List Int) (s : Nat × Int) (k : Int) : (Nat × Int) × Int × Int × Bool :=
  if k < 1 then (s, 0, 0, true)
  else if k < 2 then ((upD xs s 1114111 5).1, (upD xs s 1114111 5).2, 0, decide ((upD xs s 1114111 5).2 ≠ 0))
  else ((upD xs (upD xs s 1114111 5).1 1114111 5).1, (upD xs s 1114111 5).2, (upD xs (upD xs s 1114111 5).1 1114111 5).2, decide ((upD xs s 1114111 5).2 ≠ 0) && decide ((upD xs (upD xs s 1114111 5).1 1114111 5).2 ≠ 0))
/-- A cell; false: one of its marks is none. -/
def oneD (xs : List Int) (s : Nat × Int) : (Nat × Int) × Cel × Bool :=
  let a := upD xs s 2 5
  let p := penD xs a.1
  if a.2 = 0 then (p.1, ⟨0, 0, 0, 0, p.2⟩, true) else
  let r := upD xs p.1 1114111 5
  let k := upD xs r.1 2 6
  let m := marksD xs k.1 k.2
  (m.1, ⟨r.2, m.2.1, m.2.2.1, a.2.toNat, p.2⟩, m.2.2.2)
/-- A run more. -/
def stepD (xs : List Int) (i : Nat) (x : (Nat × Int) × List Cel) : (Nat × Int) × List Cel :=
  let a := upD xs x.1 (512 - (x.2.length : Int)) 6
  let s1 := if a.1.2 = 0 ∧ a.2 = 0 then (a.1.1, 3) else a.1
  let c := oneD xs s1
  let s2 := if c.1.2 = 0 ∧ (c.2.2 = false ∨ rightC c.2.1 = false ∨ 0 < i ∧ cAt x.2 (x.2.length - 1) = c.2.1) then (c.1.1, 3) else c.1
  (s2, if s2.2 = 0 then x.2 ++ List.replicate a.2.toNat c.2.1 else x.2)
/-- .. and so many of them. -/
def loopD (xs : List Int) (s : Nat × Int) : Nat → (Nat × Int) × List Cel
  | 0 => (s, [])
  | i + 1 => if (loopD xs s i).1.2 = 0 then stepD xs i (loopD xs s i) else loopD xs s i
def takeD (xs : List Int) (s : Nat × Int) : (Nat × Int) × List Cel :=
  let a := upD xs s 512 6
  let b := loopD xs a.1 a.2.toNat
  if b.1.2 = 0 then b else (b.1, [])
/-- The cells that all of the bytes tell; the error. -/
def parseD (xs : List Int) : List Cel × Int :=
  let b := takeD xs (0, 0)
  if dVal xs b.1.1 b.1.2 = 0 then (b.2, 0) else ([], dVal xs b.1.1 b.1.2)
/-! ### what was told is read as it was -/
theorem wOf_bd {r : Int} (h : 0 ≤ wOf r) : 32 ≤ r ∧ r ≤ 1114111 := by
  unfold wOf at h
  split at h
  · omega
  · rename_i q
    have h1 : isSc r = true := by
      cases z : isSc r
      · exact absurd (.inr (.inr z)) q
      · rfl
    unfold isSc at h1
    simp only [decide_eq_true_eq] at h1
    have : ¬ r < 32 := fun z => q (.inl z)
    omega
theorem up_enc {xs ys : List Int} {t N : Nat} (most er : Int) (h : xs.drop t = enc N ++ ys) (hN : N < 18446744073709551616) (hm : (N : Int) ≤ most) :
    upD xs (t, 0) most er = ((t + (enc N).length, 0), (N : Int)) ∧ xs.drop (t + (enc N).length) = ys := by
  have hr := rd_of_enc N ys hN
  rw [← h] at hr
  have e1 : nEr xs t 0 = 0 := by unfold nEr; rw [if_pos rfl, hr]
  have e2 : nVal xs t 0 = (N : Int) := by unfold nVal; rw [if_pos rfl, hr]
  have e3 : nu_nAt xs t 0 = t + (enc N).length := by unfold nu_nAt; rw [if_pos rfl, hr]; simp
  have e4 : nu_over most (N : Int) = false := by unfold nu_over; simp; omega
  refine ⟨?_, by rw [← List.drop_drop, h, List.drop_left']; rfl⟩
  unfold upD uAt uEr uVal
  simp only [e1, e2, e3, e4, true_and, Bool.false_eq_true, if_false]
theorem num_enc {xs ys : List Int} {t N : Nat} (h : xs.drop t = enc N ++ ys) (hN : N < 18446744073709551616) :
    numD xs (t, 0) = ((t + (enc N).length, 0), (N : Int)) ∧ xs.drop (t + (enc N).length) = ys := by
  have hr := rd_of_enc N ys hN
  rw [← h] at hr
  have e1 : nEr xs t 0 = 0 := by unfold nEr; rw [if_pos rfl, hr]
  have e2 : nVal xs t 0 = (N : Int) := by unfold nVal; rw [if_pos rfl, hr]
  have e3 : nu_nAt xs t 0 = t + (enc N).length := by unfold nu_nAt; rw [if_pos rfl, hr]; simp
  refine ⟨?_, by rw [← List.drop_drop, h, List.drop_left']; rfl⟩
  unfold numD
  simp only [e1, e2, e3]
theorem numN_bd {p : Pn} (h : rightN p = true) : 0 ≤ numN p ∧ numN p ≤ 16927 := by
  have h' := h
  unfold rightN at h'
  simp only [Bool.and_eq_true, decide_eq_true_eq] at h'
  unfold numN
  rw [if_pos h]
  omega
theorem pen_enc {xs ys : List Int} {t : Nat} {p : Pn} (hp : rightN p = true) (h : xs.drop t = enc (numN p).toNat ++ ys) :
    penD xs (t, 0) = ((t + (enc (numN p).toNat).length, 0), p) ∧ xs.drop (t + (enc (numN p).toNat).length) = ys := by
  have hb := numN_bd hp
  obtain ⟨h1, h2⟩ := num_enc h (by omega)
  refine ⟨?_, h2⟩
  have e : (((numN p).toNat : Nat) : Int) = numN p := by omega
  unfold penD
  rw [h1, e, ofN_numN p hp, if_neg (by simp only; omega)]
  simp
theorem marks_enc {xs ys : List Int} {t : Nat} {c : Cel} (h0 : c.m = 0 → c.n = 0) (hm : 0 ≤ c.m ∧ c.m ≤ 1114111) (hn : 0 ≤ c.n ∧ c.n ≤ 1114111) (h : xs.drop t = encAll (marksOf c) ++ ys) :
    marksD xs (t, 0) ((marksOf c).length : Int) = ((t + (encAll (marksOf c)).length, 0), c.m, c.n, true) ∧ xs.drop (t + (encAll (marksOf c)).length) = ys := by
  by_cases q : c.m = 0
  · have q2 := h0 q
    have e : marksOf c = [] := by unfold marksOf; rw [if_pos q, if_pos q2]; rfl
    rw [e] at h ⊢
    refine ⟨?_, by simpa [encAll_nil] using h⟩
    unfold marksD
    rw [if_pos (by simp)]
    simp [encAll_nil, q, q2]
  · by_cases q2 : c.n = 0
    · have e : marksOf c = [c.m] := by unfold marksOf; rw [if_neg q, if_pos q2]; rfl
      rw [e] at h ⊢
      rw [encAll_one] at h ⊢
      obtain ⟨h1, h2⟩ := up_enc 1114111 5 h (by omega) (by omega)
      refine ⟨?_, h2⟩
      have z : ((c.m.toNat : Nat) : Int) = c.m := by omega
      unfold marksD
      rw [if_neg (by simp), if_pos (by simp), h1, z]
      simp [q, q2]
    · have e : marksOf c = [c.m, c.n] := by unfold marksOf; rw [if_neg q, if_neg q2]; rfl
      rw [e] at h ⊢
      rw [show encAll [c.m, c.n] = enc c.m.toNat ++ enc c.n.toNat by simp [encAll]] at h ⊢
      rw [List.append_assoc] at h
      obtain ⟨h1, h2⟩ := up_enc 1114111 5 h (by omega) (by omega)
      obtain ⟨h3, h4⟩ := up_enc 1114111 5 h2 (by omega) (by omega)
      rw [List.length_append, ← Nat.add_assoc]
      refine ⟨?_, h4⟩
      have z : ((c.m.toNat : Nat) : Int) = c.m := by omega
      have z2 : ((c.n.toNat : Nat) : Int) = c.n := by omega
      unfold marksD
      rw [if_neg (by simp), if_neg (by simp), h1]
      simp only
      rw [h3, z, z2]
      simp [q, q2]
theorem right_facts {c : Cel} (h : rightC c = true) : rightN c.p = true ∧ ((c.w = 0 ∧ c.r = 0 ∧ c.m = 0 ∧ c.n = 0) ∨ ((c.w = 1 ∨ c.w = 2) ∧ (0 ≤ c.r ∧ c.r ≤ 1114111) ∧ (c.m = 0 → c.n = 0) ∧ (0 ≤ c.m ∧ c.m ≤ 1114111) ∧ (0 ≤ c.n ∧ c.n ≤ 1114111))) := by
  refine ⟨right_pen h, ?_⟩
  unfold rightC at h
  simp only [Bool.and_eq_true] at h
  by_cases h0 : c.w = 0
  · rw [if_pos h0] at h
    exact .inl ⟨h0, by simpa using h.2⟩
  · rw [if_neg h0] at h
    obtain ⟨-, h⟩ := h
    split at h
    · rename_i hb
      simp only [Bool.and_eq_true, decide_eq_true_eq] at h
      obtain ⟨hw, hm⟩ := h
      unfold bearsC at hb
      simp only [decide_eq_true_eq] at hb
      have := wOf_bd (r := c.r) (by omega)
      refine .inr ⟨hb, by omega, ?_⟩
      unfold marksC at hm
      split at hm
      · rename_i q
        simp only [decide_eq_true_eq] at hm
        exact ⟨fun _ => hm, by omega, by omega⟩
      · rename_i q
        simp only [Bool.and_eq_true, Bool.or_eq_true, decide_eq_true_eq] at hm
        have h1 := wOf_bd (r := c.m) (by omega)
        refine ⟨fun z => absurd z q, by omega, ?_⟩
        rcases hm.2 with z | z
        · omega
        · have := wOf_bd (r := c.n) (by omega); omega
    · cases h
theorem one_enc {xs ys : List Int} {t : Nat} {c : Cel} (hc : rightC c = true) (h : xs.drop t = encAll (cellNums c) ++ ys) :
    oneD xs (t, 0) = ((t + (encAll (cellNums c)).length, 0), c, true) ∧ xs.drop (t + (encAll (cellNums c)).length) = ys := by
  obtain ⟨hp, hf⟩ := right_facts hc
  obtain ⟨r, m, n, w, p⟩ := c
  simp only at hp hf
  rcases hf with ⟨rfl, rfl, rfl, rfl⟩ | ⟨hw, hr, h0, hm, hn⟩
  · have e : cellNums ⟨0, 0, 0, 0, p⟩ = [0, numN p] := by unfold cellNums; simp
    rw [e] at h ⊢
    rw [show encAll [0, numN p] = enc 0 ++ enc (numN p).toNat by simp [encAll]] at h ⊢
    rw [List.append_assoc] at h
    obtain ⟨h1, h2⟩ := up_enc 2 5 h (by omega) (by omega)
    obtain ⟨h3, h4⟩ := pen_enc hp h2
    rw [List.length_append, ← Nat.add_assoc]
    refine ⟨?_, h4⟩
    unfold oneD
    simp only [h1, h3]
    simp
  · have hw0 : w ≠ 0 := by omega
    have e : cellNums ⟨r, m, n, w, p⟩ = [(w : Int), numN p, r, ((marksOf ⟨r, m, n, w, p⟩).length : Int)] ++ marksOf ⟨r, m, n, w, p⟩ := by unfold cellNums; simp [hw0]
    have hl : (marksOf ⟨r, m, n, w, p⟩).length ≤ 2 := by unfold marksOf; simp only; split <;> split <;> simp
    rw [e] at h ⊢
    rw [show ∀ a b c d l, encAll ([a, b, c, d] ++ l) = enc a.toNat ++ (enc b.toNat ++ (enc c.toNat ++ (enc d.toNat ++ encAll l))) by intro a b c d l; simp [encAll]] at h ⊢
    simp only [Int.toNat_natCast, List.append_assoc] at h ⊢
    obtain ⟨h1, h2⟩ := up_enc 2 5 h (by omega) (by omega)
    obtain ⟨h3, h4⟩ := pen_enc hp h2
    obtain ⟨h5, h6⟩ := up_enc 1114111 5 h4 (by omega) (by omega)
    obtain ⟨h7, h8⟩ := up_enc 2 6 h6 (by omega) (by omega)
    obtain ⟨h9, h10⟩ := marks_enc (c := ⟨r, m, n, w, p⟩) h0 hm hn h8
    simp only [List.length_append, ← Nat.add_assoc]
    refine ⟨?_, h10⟩
    unfold oneD
    simp only [h1, h3, h5, h7, h9]
    rw [if_neg (by omega), show ((r.toNat : Nat) : Int) = r by omega]
    simp
theorem expand_cons (x : Nat × Cel) (l : List (Nat × Cel)) : expandR (x :: l) = List.replicate x.1 x.2 ++ expandR l := rfl
theorem expand_append (a b : List (Nat × Cel)) : expandR (a ++ b) = expandR a ++ expandR b := by unfold expandR; simp
theorem cAt_last (l : List Cel) (k : Nat) (c : Cel) (h : 1 ≤ k) : cAt (l ++ List.replicate k c) ((l ++ List.replicate k c).length - 1) = c := by
  unfold cAt
  rw [List.getD_eq_getElem?_getD, List.getElem?_append_right (by simp; omega)]
  simp only [List.length_append, List.length_replicate]
  rw [List.getElem?_replicate, if_pos (by omega)]
  rfl
/-- A fine row of runs, cut: the one ahead of a run has another cell. -/
theorem fine_last (pre : List (Nat × Cel)) (x : Nat × Cel) (post : List (Nat × Cel)) (h : fineR (pre ++ x :: post)) (hp : pre ≠ []) : cAt (expandR pre) ((expandR pre).length - 1) ≠ x.2 := by
  induction pre with
  | nil => exact absurd rfl hp
  | cons y pre ih =>
    cases pre with
    | nil =>
      have h1 : 1 ≤ y.1 := h.1
      have h2 : y.2 ≠ x.2 := h.2.1
      have e : expandR [y] = [] ++ List.replicate y.1 y.2 := by unfold expandR; simp
      rw [e, cAt_last _ _ _ h1]
      exact h2
    | cons z pre =>
      have h3 := ih (fine_tail h) (by simp)
      have hz := fine_one (fine_tail h)
      have e : expandR (y :: z :: pre) = List.replicate y.1 y.2 ++ expandR (z :: pre) := rfl
      have hl : 1 ≤ (expandR (z :: pre)).length := by rw [expand_cons]; simp; omega
      rw [e]
      unfold cAt at h3 ⊢
      rw [List.getD_eq_getElem?_getD] at h3 ⊢
      rw [List.getElem?_append_right (by simp; omega)]
      simp only [List.length_append, List.length_replicate]
      rw [show y.1 + (expandR (z :: pre)).length - 1 - y.1 = (expandR (z :: pre)).length - 1 by omega]
      exact h3
theorem step_enc {xs ys : List Int} {t i k : Nat} {c : Cel} {out : List Cel} (hc : rightC c = true) (hk : 1 ≤ k) (hl : out.length + k ≤ 512) (hn : 0 < i → cAt out (out.length - 1) ≠ c) (h : xs.drop t = encAll (numsR k c) ++ ys) :
    stepD xs i ((t, 0), out) = ((t + (encAll (numsR k c)).length, 0), out ++ List.replicate k c) ∧ xs.drop (t + (encAll (numsR k c)).length) = ys := by
  unfold numsR at h ⊢
  rw [encAll_cons] at h ⊢
  rw [List.append_assoc] at h
  simp only [Int.toNat_natCast] at h ⊢
  obtain ⟨h1, h2⟩ := up_enc (512 - (out.length : Int)) 6 h (by omega) (by omega)
  obtain ⟨h3, h4⟩ := one_enc hc h2
  rw [List.length_append, ← Nat.add_assoc]
  refine ⟨?_, h4⟩
  have hk0 : ¬ (k : Int) = 0 := by omega
  unfold stepD
  simp only [h1, hk0, and_false, if_false, h3, hc, true_and, Bool.true_eq_false, false_or]
  rw [if_neg (fun q => hn q.1 q.2)]
  simp
theorem loop_enc {xs ys : List Int} {t : Nat} (rs : List (Nat × Cel)) (hf : fineR rs) (hr : ∀ x ∈ rs, rightC x.2 = true) (hl : (expandR rs).length ≤ 512) (h : xs.drop t = runBytes rs ++ ys) :
    ∀ i, i ≤ rs.length → loopD xs (t, 0) i = ((t + (runBytes (rs.take i)).length, 0), expandR (rs.take i)) ∧ xs.drop (t + (runBytes (rs.take i)).length) = runBytes (rs.drop i) ++ ys := by
  intro i
  induction i with
  | zero => intro _; exact ⟨rfl, h⟩
  | succ i ih =>
    intro hi
    obtain ⟨h1, h2⟩ := ih (by omega)
    have hlt : i < rs.length := by omega
    obtain ⟨⟨k, c⟩, hx⟩ : ∃ x, rs[i] = x := ⟨_, rfl⟩
    have e1 : rs.drop i = (k, c) :: rs.drop (i + 1) := by rw [List.drop_eq_getElem_cons hlt, hx]
    have e2 : rs.take (i + 1) = rs.take i ++ [(k, c)] := by rw [List.take_succ_eq_append_getElem hlt, hx]
    have e3 : rs.take i ++ (k, c) :: rs.drop (i + 1) = rs := by rw [← e1]; exact List.take_append_drop i rs
    have hf3 : fineR (rs.take i ++ (k, c) :: rs.drop (i + 1)) := by rw [e3]; exact hf
    have hkc : (k, c) ∈ rs := by rw [← hx]; exact List.getElem_mem hlt
    have hk : 1 ≤ k := by
      have : ∀ (a : List (Nat × Cel)), fineR (a ++ (k, c) :: rs.drop (i + 1)) → 1 ≤ k := by
        intro a
        induction a with
        | nil => intro q; exact fine_one q
        | cons y a ia => intro q; exact ia (fine_tail q)
      exact this _ hf3
    have hlen : (expandR (rs.take i)).length + k ≤ 512 := by
      have : (expandR rs).length = (expandR (rs.take i)).length + (k + (expandR (rs.drop (i + 1))).length) := by
        rw [← congrArg (fun z => (expandR z).length) e3, expand_append, expand_cons]
        simp
      omega
    rw [e1, runBytes_cons, List.append_assoc] at h2
    obtain ⟨h3, h4⟩ := step_enc (i := i) (out := expandR (rs.take i)) (hr _ hkc) hk hlen (fun q => fine_last _ _ _ hf3 (by
      intro z
      have z2 : (rs.take i).length = 0 := by rw [z]; rfl
      rw [List.length_take] at z2
      omega)) h2
    have e4 : runBytes (rs.take (i + 1)) = runBytes (rs.take i) ++ encAll (numsR k c) := by rw [e2, runBytes_append]; unfold runBytes; simp
    have e5 : expandR (rs.take (i + 1)) = expandR (rs.take i) ++ List.replicate k c := by rw [e2, expand_append]; unfold expandR; simp
    rw [e4, e5, List.length_append, ← Nat.add_assoc]
    refine ⟨?_, h4⟩
    have u : loopD xs (t, 0) (i + 1) = if (loopD xs (t, 0) i).1.2 = 0 then stepD xs i (loopD xs (t, 0) i) else loopD xs (t, 0) i := rfl
    rw [u, h1, if_pos rfl, h3]
theorem runs_right {l : List Cel} (h : l.all rightC = true) : ∀ x ∈ runsOf l, rightC x.2 = true := by
  intro x hx
  have h1 := fine_runs l
  have hk : ∀ (a : List (Nat × Cel)), fineR a → x ∈ a → 1 ≤ x.1 := by
    intro a
    induction a with
    | nil => intro _ q; cases q
    | cons y a ia =>
      intro q1 q2
      rcases List.mem_cons.1 q2 with q2 | q2
      · rw [q2]; exact fine_one q1
      · exact ia (fine_tail q1) q2
  have h2 := hk _ h1 hx
  have h3 : x.2 ∈ l := by
    rw [← expand_runs l]
    unfold expandR
    exact List.mem_flatMap.2 ⟨x, hx, List.mem_replicate.2 ⟨by omega, rfl⟩⟩
  exact List.all_eq_true.1 h _ h3
theorem runs_le (l : List Cel) : (runsOf l).length ≤ l.length := by
  induction l with
  | nil => simp [runsOf]
  | cons c l ih =>
    rw [runsOf_eq]
    split
    · simp
    · rename_i k d r h
      rw [h] at ih
      split
      · simp at ih ⊢; omega
      · simp at ih ⊢; omega
/-- What was told is read as it was. -/
theorem take_enc {xs ys : List Int} {t : Nat} {l : List Cel} (hl : l.length ≤ 512) (hr : l.all rightC = true) (h : xs.drop t = bytesR l ++ ys) :
    takeD xs (t, 0) = ((t + (bytesR l).length, 0), l) ∧ xs.drop (t + (bytesR l).length) = ys := by
  unfold bytesR at h ⊢
  rw [List.append_assoc] at h
  have hc := runs_count l
  have hle := runs_le l
  obtain ⟨h1, h2⟩ := up_enc 512 6 h (by omega) (by omega)
  obtain ⟨h3, h4⟩ := loop_enc (runsOf l) (fine_runs l) (runs_right hr) (by rw [expand_runs]; exact hl) h2 (countR l) (by omega)
  rw [List.take_of_length_le (by omega)] at h3 h4
  rw [show (runsOf l).drop (countR l) = [] from List.drop_eq_nil_of_le (by omega)] at h4
  rw [List.length_append, ← Nat.add_assoc]
  refine ⟨?_, h4⟩
  unfold takeD
  simp only [h1, Int.toNat_natCast, h3, expand_runs, if_true]
theorem parse_enc {l : List Cel} (hl : l.length ≤ 512) (hr : l.all rightC = true) : parseD (bytesR l) = (l, 0) := by
  obtain ⟨h1, h2⟩ := take_enc (t := 0) (ys := []) (xs := bytesR l) hl hr (by simp)
  unfold parseD
  have hd : dVal (bytesR l) (0 + (bytesR l).length) 0 = 0 := by unfold dVal; rw [if_neg (by omega)]
  simp only [h1, hd, if_true]

/-! ### what was read is told by just these bytes -/
theorem num_back {xs : List Int} {s : Nat × Int} (hb : Byte xs) (h : (numD xs s).1.2 = 0) :
    s.2 = 0 ∧ ∃ N : Nat, (numD xs s).2 = (N : Int) ∧ N < 18446744073709551616 ∧ xs.drop s.1 = enc N ++ xs.drop (numD xs s).1.1 := by
  obtain ⟨t, E⟩ := s
  unfold numD nEr at h
  simp only at h
  by_cases hE : E = 0
  · subst hE
    rw [if_pos rfl] at h
    refine ⟨rfl, ?_⟩
    rcases rd_cases (xs.drop t) (byte_drop hb t) with hr | hr | ⟨N, n, hr, hN, hn, he⟩
    · rw [hr] at h; cases h
    · rw [hr] at h; cases h
    · refine ⟨N, ?_, hN, ?_⟩
      · simp only [numD, nVal, if_true, hr]
      · simp only [numD, nu_nAt, if_true, hr, Int.toNat_natCast]
        rw [he, ← List.drop_drop]
        exact (List.take_append_drop n (xs.drop t)).symm
  · rw [if_neg hE] at h
    exact absurd h hE
theorem up_num {xs : List Int} {s : Nat × Int} {most er : Int} (he : er ≠ 0) (h : (upD xs s most er).1.2 = 0) : upD xs s most er = numD xs s ∧ 0 ≤ most ∧ (numD xs s).2 ≤ most := by
  unfold upD uEr at h
  simp only at h
  by_cases q : nEr xs s.1 s.2 = 0 ∧ nu_over most (nVal xs s.1 s.2) = true
  · rw [if_pos q] at h; exact absurd h he
  · rw [if_neg q] at h
    have q2 : nu_over most (nVal xs s.1 s.2) = false := by
      cases z : nu_over most (nVal xs s.1 s.2)
      · rfl
      · exact absurd ⟨h, z⟩ q
    refine ⟨?_, ?_⟩
    · unfold upD uAt uEr uVal numD
      rw [if_neg q, if_neg q, if_neg q]
    · unfold nu_over at q2
      simp only [decide_eq_false_iff_not, not_or] at q2
      exact ⟨by omega, by unfold numD; simp only; omega⟩
theorem up_back {xs : List Int} {s : Nat × Int} {most er : Int} (hb : Byte xs) (he : er ≠ 0) (h : (upD xs s most er).1.2 = 0) :
    s.2 = 0 ∧ ∃ N : Nat, (upD xs s most er).2 = (N : Int) ∧ (N : Int) ≤ most ∧ xs.drop s.1 = enc N ++ xs.drop (upD xs s most er).1.1 := by
  obtain ⟨h1, h2, h3⟩ := up_num he h
  rw [h1] at h ⊢
  obtain ⟨h4, N, h5, h6, h7⟩ := num_back hb h
  exact ⟨h4, N, h5, by omega, h7⟩
theorem pen_back {xs : List Int} {s : Nat × Int} (hb : Byte xs) (h : (penD xs s).1.2 = 0) :
    s.2 = 0 ∧ rightN (penD xs s).2 = true ∧ xs.drop s.1 = enc (numN (penD xs s).2).toNat ++ xs.drop (penD xs s).1.1 := by
  unfold penD at h ⊢
  split at h
  · cases h
  · rename_i q
    rw [if_neg q]
    simp only at h ⊢
    split at h
    · rename_i ho
      obtain ⟨h1, N, h2, h3, h4⟩ := num_back hb h
      refine ⟨h1, ?_⟩
      have h5 := ofN_true (numD xs s).2 (ofN (numD xs s).2).1 (by rw [← ho])
      refine ⟨h5.1, ?_⟩
      rw [h5.2, h2, Int.toNat_natCast]
      exact h4
    · unfold fEr at h
      split at h
      · cases h
      · rename_i z; exact absurd h z
theorem marks_back {xs : List Int} {s : Nat × Int} {k : Nat} (hb : Byte xs) (hk : k ≤ 2) (r : Int) (w : Nat) (p : Pn) (h : (marksD xs s (k : Int)).1.2 = 0) (hok : (marksD xs s (k : Int)).2.2.2 = true) :
    s.2 = 0 ∧ (marksOf ⟨r, (marksD xs s k).2.1, (marksD xs s k).2.2.1, w, p⟩).length = k ∧ xs.drop s.1 = encAll (marksOf ⟨r, (marksD xs s k).2.1, (marksD xs s k).2.2.1, w, p⟩) ++ xs.drop (marksD xs s k).1.1 := by
  unfold marksD at h hok ⊢
  by_cases k0 : k = 0
  · subst k0
    rw [if_pos (by simp)] at h hok ⊢
    exact ⟨h, by simp [marksOf], by simp [marksOf, encAll_nil]⟩
  · by_cases k1 : k = 1
    · subst k1
      rw [if_neg (by simp), if_pos (by simp)] at h hok ⊢
      simp only [decide_eq_true_eq] at hok
      obtain ⟨h1, N, h2, h3, h4⟩ := up_back hb (by decide) h
      have e : marksOf ⟨r, (upD xs s 1114111 5).2, 0, w, p⟩ = [(upD xs s 1114111 5).2] := by unfold marksOf; simp only; rw [if_neg hok]; rfl
      rw [e, encAll_one, h2, Int.toNat_natCast]
      exact ⟨h1, rfl, h4⟩
    · obtain rfl : k = 2 := by omega
      rw [if_neg (by simp), if_neg (by simp)] at h hok ⊢
      simp only [Bool.and_eq_true, decide_eq_true_eq] at hok
      obtain ⟨h1, N, h2, h3, h4⟩ := up_back hb (by decide) h
      obtain ⟨h5, M, h6, h7, h8⟩ := up_back hb (by decide) h1
      have e : marksOf ⟨r, (upD xs s 1114111 5).2, (upD xs (upD xs s 1114111 5).1 1114111 5).2, w, p⟩ = [(upD xs s 1114111 5).2, (upD xs (upD xs s 1114111 5).1 1114111 5).2] := by
        unfold marksOf; simp only; rw [if_neg hok.1, if_neg hok.2]; rfl
      rw [e, h2, h6, show encAll [(M : Int), (N : Int)] = enc M ++ enc N by simp [encAll], List.append_assoc, ← h4]
      exact ⟨h5, rfl, h8⟩
theorem one_back {xs : List Int} {s : Nat × Int} (hb : Byte xs) (h : (oneD xs s).1.2 = 0) (hok : (oneD xs s).2.2 = true) :
    s.2 = 0 ∧ xs.drop s.1 = encAll (cellNums (oneD xs s).2.1) ++ xs.drop (oneD xs s).1.1 := by
  unfold oneD at h hok ⊢
  simp only at h hok ⊢
  by_cases q : (upD xs s 2 5).2 = 0
  · rw [if_pos q] at h hok ⊢
    simp only at h hok ⊢
    obtain ⟨h1, h2, h3⟩ := pen_back hb h
    obtain ⟨h4, N, h5, h6, h7⟩ := up_back hb (by decide) h1
    have hN : N = 0 := by omega
    subst hN
    refine ⟨h4, ?_⟩
    rw [h7, h3]
    simp [cellNums, encAll]
  · rw [if_neg q] at h hok ⊢
    simp only at h hok ⊢
    obtain ⟨k, hk⟩ : ∃ k, upD xs (upD xs (penD xs (upD xs s 2 5).1).1 1114111 5).1 2 6 = k := ⟨_, rfl⟩
    rw [hk] at h hok ⊢
    have hs : k.1.2 = 0 ∧ ∃ K : Nat, k.2 = (K : Int) ∧ K ≤ 2 := by
      have hz : ∀ j : Int, (marksD xs k.1 j).1.2 = 0 → k.1.2 = 0 := by
        intro j hj
        unfold marksD at hj
        split at hj
        · exact hj
        · split at hj
          · exact (up_back hb (by decide) hj).1
          · exact (up_back hb (by decide) (up_back hb (by decide) hj).1).1
      have h0 := hz _ h
      rw [← hk] at h0 ⊢
      obtain ⟨-, K, h2, h3, -⟩ := up_back hb (by decide) h0
      exact ⟨h0, K, h2, by omega⟩
    obtain ⟨hk0, K, hK, hK2⟩ := hs
    rw [hK] at h hok ⊢
    obtain ⟨h1, h2, h3⟩ := marks_back hb hK2 (upD xs (penD xs (upD xs s 2 5).1).1 1114111 5).2 (upD xs s 2 5).2.toNat (penD xs (upD xs s 2 5).1).2 h hok
    have hk1 : (upD xs (upD xs (penD xs (upD xs s 2 5).1).1 1114111 5).1 2 6).1.2 = 0 := by rw [hk]; exact h1
    obtain ⟨h4, K', h5, h6, h7⟩ := up_back hb (by decide) hk1
    rw [hk] at h5 h7
    obtain rfl : K' = K := by omega
    obtain ⟨h8, Rn, h9, h10, h11⟩ := up_back hb (by decide) h4
    obtain ⟨h12, h13, h14⟩ := pen_back hb h8
    obtain ⟨h15, W, h16, h17, h18⟩ := up_back hb (by decide) h12
    refine ⟨h15, ?_⟩
    rw [h18, h14, h11, h7, h3]
    rw [h16] at q
    unfold cellNums
    simp only [h16, Int.toNat_natCast]
    rw [h16, Int.toNat_natCast] at h2
    rw [if_neg (by omega), h2]
    simp [encAll, h9]
/-- A row of runs, one more. -/
theorem fine_snoc (rs : List (Nat × Cel)) (k : Nat) (c : Cel) (h : fineR rs) (hk : 1 ≤ k) (hn : rs ≠ [] → cAt (expandR rs) ((expandR rs).length - 1) ≠ c) : fineR (rs ++ [(k, c)]) := by
  induction rs with
  | nil => exact hk
  | cons x rs ih =>
    cases rs with
    | nil =>
      refine ⟨h, ?_, hk⟩
      have := hn (by simp)
      have e : expandR [x] = [] ++ List.replicate x.1 x.2 := by unfold expandR; simp
      rw [e, cAt_last _ _ _ h] at this
      exact this
    | cons y rs =>
      refine ⟨h.1, h.2.1, ih h.2.2 (fun _ => ?_)⟩
      have := hn (by simp)
      have hy := fine_one h.2.2
      have hl : 1 ≤ (expandR (y :: rs)).length := by rw [expand_cons]; simp; omega
      rw [expand_cons x] at this
      unfold cAt at this ⊢
      rw [List.getD_eq_getElem?_getD] at this ⊢
      rw [List.getElem?_append_right (by simp; omega)] at this
      simp only [List.length_append, List.length_replicate] at this
      rw [show x.1 + (expandR (y :: rs)).length - 1 - x.1 = (expandR (y :: rs)).length - 1 by omega] at this
      exact this
theorem step_back {xs : List Int} {i : Nat} {x : (Nat × Int) × List Cel} (hb : Byte xs) (h : (stepD xs i x).1.2 = 0) :
    x.1.2 = 0 ∧ ∃ (k : Nat) (c : Cel), (stepD xs i x).2 = x.2 ++ List.replicate k c ∧ 1 ≤ k ∧ (k : Int) ≤ 512 - (x.2.length : Int) ∧ rightC c = true ∧ (0 < i → cAt x.2 (x.2.length - 1) ≠ c) ∧
      xs.drop x.1.1 = encAll (numsR k c) ++ xs.drop (stepD xs i x).1.1 := by
  unfold stepD at h ⊢
  simp only at h ⊢
  obtain ⟨a, ha⟩ : ∃ a, upD xs x.1 (512 - (x.2.length : Int)) 6 = a := ⟨_, rfl⟩
  rw [ha] at h ⊢
  obtain ⟨s1, hs1⟩ : ∃ s1, (if a.1.2 = 0 ∧ a.2 = 0 then (a.1.1, (3 : Int)) else a.1) = s1 := ⟨_, rfl⟩
  rw [hs1] at h ⊢
  obtain ⟨c, hc⟩ : ∃ c, oneD xs s1 = c := ⟨_, rfl⟩
  rw [hc] at h ⊢
  by_cases q : c.1.2 = 0 ∧ (c.2.2 = false ∨ rightC c.2.1 = false ∨ 0 < i ∧ cAt x.2 (x.2.length - 1) = c.2.1)
  · rw [if_pos q] at h; cases h
  · rw [if_neg q] at h ⊢
    rw [if_pos h]
    have hok : c.2.2 = true := by
      cases z : c.2.2
      · exact absurd ⟨h, .inl z⟩ q
      · rfl
    have hr : rightC c.2.1 = true := by
      cases z : rightC c.2.1
      · exact absurd ⟨h, .inr (.inl z)⟩ q
      · rfl
    have hn : 0 < i → cAt x.2 (x.2.length - 1) ≠ c.2.1 := fun z1 z2 => q ⟨h, .inr (.inr ⟨z1, z2⟩)⟩
    rw [← hc] at h hok
    obtain ⟨h1, h2⟩ := one_back hb h hok
    rw [hc] at h2
    by_cases q2 : a.1.2 = 0 ∧ a.2 = 0
    · rw [if_pos q2] at hs1; rw [← hs1] at h1; cases h1
    · rw [if_neg q2] at hs1
      subst hs1
      rw [← ha] at h1
      obtain ⟨h3, k, h4, h5, h6⟩ := up_back hb (by decide) h1
      rw [ha] at h1 h4 h6
      have hk : ¬ a.2 = 0 := fun z => q2 ⟨h1, z⟩
      refine ⟨h3, k, c.2.1, ?_, by omega, h5, hr, hn, ?_⟩
      · rw [h4, Int.toNat_natCast]
      · rw [h6, h2]
        unfold numsR
        rw [encAll_cons, Int.toNat_natCast, List.append_assoc]
theorem loop_back {xs : List Int} {s : Nat × Int} (hb : Byte xs) : ∀ n, (loopD xs s n).1.2 = 0 → s.2 = 0 ∧ ∃ rs : List (Nat × Cel), rs.length = n ∧ fineR rs ∧ (∀ x ∈ rs, rightC x.2 = true) ∧ (loopD xs s n).2 = expandR rs ∧ (expandR rs).length ≤ 512 ∧
    xs.drop s.1 = runBytes rs ++ xs.drop (loopD xs s n).1.1 := by
  intro n
  induction n with
  | zero => intro h; exact ⟨h, [], rfl, trivial, by simp, rfl, by simp [expandR], rfl⟩
  | succ n ih =>
    intro h
    have u : loopD xs s (n + 1) = if (loopD xs s n).1.2 = 0 then stepD xs n (loopD xs s n) else loopD xs s n := rfl
    rw [u] at h ⊢
    by_cases q : (loopD xs s n).1.2 = 0
    · rw [if_pos q] at h ⊢
      obtain ⟨h1, rs, h2, h3, h4, h5, h6, h7⟩ := ih q
      obtain ⟨-, k, c, h8, h9, h10, h11, h12, h13⟩ := step_back hb h
      rw [h5] at h8 h10 h12
      refine ⟨h1, rs ++ [(k, c)], by simp [h2], fine_snoc rs k c h3 h9 (fun z => h12 (by
        have := List.length_pos_iff.2 z; omega)), ?_, ?_, ?_, ?_⟩
      · intro x hx
        rcases List.mem_append.1 hx with z | z
        · exact h4 x z
        · simp only [List.mem_cons, List.not_mem_nil, or_false] at z; rw [z]; exact h11
      · rw [h8, expand_append]; unfold expandR; simp
      · rw [expand_append]; simp [expandR] at h6 h10 ⊢; omega
      · rw [h7, h13, runBytes_append, List.append_assoc]; unfold runBytes; simp
    · rw [if_neg q] at h; exact absurd h q
/-- What was read is told by just these bytes. -/
theorem take_back {xs : List Int} {s : Nat × Int} (hb : Byte xs) (h : (takeD xs s).1.2 = 0) :
    s.2 = 0 ∧ (takeD xs s).2.length ≤ 512 ∧ (takeD xs s).2.all rightC = true ∧ xs.drop s.1 = bytesR (takeD xs s).2 ++ xs.drop (takeD xs s).1.1 := by
  unfold takeD at h ⊢
  simp only at h ⊢
  by_cases q : (loopD xs (upD xs s 512 6).1 (upD xs s 512 6).2.toNat).1.2 = 0
  · rw [if_pos q]
    obtain ⟨h1, rs, h2, h3, h4, h5, h6, h7⟩ := loop_back hb _ q
    obtain ⟨h8, N, h9, h10, h11⟩ := up_back hb (by decide) h1
    refine ⟨h8, by rw [h5]; exact h6, ?_, ?_⟩
    · rw [h5, List.all_eq_true]
      intro x hx
      unfold expandR at hx
      obtain ⟨y, hy, hx⟩ := List.mem_flatMap.1 hx
      rw [(List.mem_replicate.1 hx).2]
      exact h4 y hy
    · have e1 := runs_expand rs h3
      have e2 := runs_count (expandR rs)
      rw [h9, Int.toNat_natCast] at h2
      rw [h11, h7, h5]
      unfold bytesR
      rw [← e2, e1, h2, List.append_assoc]
  · rw [if_neg q] at h; exact absurd h q
theorem parse_back {xs : List Int} (hb : Byte xs) (h : (parseD xs).2 = 0) : bytesR (parseD xs).1 = xs ∧ checkR (parseD xs).1 = 0 := by
  unfold parseD at h ⊢
  simp only at h ⊢
  by_cases q : dVal xs (takeD xs (0, 0)).1.1 (takeD xs (0, 0)).1.2 = 0
  · rw [if_pos q]
    have q1 : (takeD xs (0, 0)).1.2 = 0 ∧ ¬ (takeD xs (0, 0)).1.1 < xs.length := by
      unfold dVal at q
      split at q
      · cases q
      · rename_i z; exact ⟨q, fun y => z ⟨q, y⟩⟩
    obtain ⟨-, h2, h3, h4⟩ := take_back hb q1.1
    simp only [List.drop_zero] at h4
    rw [show xs.drop (takeD xs (0, 0)).1.1 = [] from List.drop_eq_nil_of_le (by omega), List.append_nil] at h4
    refine ⟨h4.symm, ?_⟩
    unfold checkR
    simp only
    rw [if_neg (by omega), if_pos h3]
  · rw [if_neg q] at h; exact absurd h q
section
open Go.ChangeShapes Go.WideShapes Go.ChangeAt Go.RowKit
theorem u64_bd {a : Int} (h : (Lit.int .u64 a).wf = true) : 0 ≤ a ∧ a < 18446744073709551616 := by
  have : 0 ≤ a ∧ a ≤ 18446744073709551615 := by simpa [Lit.wf, IntKind.min, IntKind.max, IntKind.signed, IntKind.bits] using h
  omega
theorem u64s_of {zs : List Int} (h : ∀ n ∈ zs, (Lit.int .u64 n).wf = true) (n : Nat) : ∀ z ∈ zs.take n, 0 ≤ z ∧ z < 18446744073709551616 := fun x hx => u64_bd (h x (List.mem_of_mem_take hx))
/-- What is known of a slice of numbers that came in. -/
def IsRow (k : IntKind) (w : World) (a : Option Addr) (len cap : Nat) (zs : List Int) : Prop :=
  (a = none ∧ len = 0 ∧ cap = 0 ∧ zs = []) ∨
  ∃ x, a = some x ∧ len ≤ cap ∧ cap ≤ maxLen ∧ zs.length = cap ∧ (∀ i, i < zs.length → w.cell? (x.add i) = some (.int k (zs.getD i 0))) ∧ ∀ n ∈ zs, (Lit.int k n).wf = true

theorem IsRow.ints {k : IntKind} {w : World} {a : Option Addr} {len cap : Nat} {zs : List Int} (h : IsRow k w a len cap zs) : Ints k w a zs := by
  rcases h with ⟨rfl, rfl, rfl, rfl⟩ | ⟨x, rfl, hl, hm, hz, hc, hw⟩
  · exact .nil
  · by_cases h0 : zs = []
    · exact .inl h0
    · have hp : 0 < zs.length := List.length_pos_iff.2 h0
      obtain ⟨b, off, spot⟩ := x
      have hs : spot = none := by simpa [Addr.add] using World.cell?_spot (hc 0 hp)
      subst hs
      refine .inr ⟨b, off, rfl, fun i hi => ?_⟩
      have := hc i hi
      have e : (⟨b, off, none⟩ : Addr).add i = ⟨b, off + i, none⟩ := by unfold Addr.add; split <;> simp_all
      rwa [e] at this
theorem IsRow.len {k : IntKind} {w : World} {a : Option Addr} {len cap : Nat} {zs : List Int} (h : IsRow k w a len cap zs) : zs.length = cap ∧ len ≤ cap ∧ (a = none → cap = 0) ∧ cap ≤ maxLen := by
  rcases h with ⟨rfl, rfl, rfl, rfl⟩ | ⟨x, rfl, hl, hm, hz, hc, hw⟩
  · exact ⟨rfl, Nat.le_refl _, fun _ => rfl, Nat.zero_le _⟩
  · exact ⟨hz, hl, (fun h => by cases h), hm⟩
theorem IsRow.wf {k : IntKind} {w : World} {a : Option Addr} {len cap : Nat} {zs : List Int} (h : IsRow k w a len cap zs) : ∀ n ∈ zs, (Lit.int k n).wf = true := by
  rcases h with ⟨rfl, rfl, rfl, rfl⟩ | ⟨x, rfl, hl, hm, hz, hc, hw⟩
  · simp
  · exact hw
theorem u8_bd {a : Int} (h : (Lit.int .u8 a).wf = true) : 0 ≤ a ∧ a ≤ 255 := by
  simpa [Lit.wf, IntKind.min, IntKind.max, IntKind.signed, IntKind.bits] using h
theorem byte_of {zs : List Int} (h : ∀ n ∈ zs, (Lit.int .u8 n).wf = true) (n : Nat) : Byte (zs.take n) := fun x hx => u8_bd (h x (List.mem_of_mem_take hx))
def eqP (f g b f' g' b' : Int) : Bool := (f == f') && ((g == g') && (b == b'))
def eqM (m n m' n' : Int) : Bool := (m == m') && (n == n')
def eqC (r m n w f g b r' m' n' w' f' g' b' : Int) : Bool := (r == r') && (eqM m n m' n' && ((w == w') && eqP f g b f' g' b'))
def fieldsAre (P : Program) (t : TypeId) (l : List (Bool × TypeId × Nat)) : Prop := (P.fieldsOf t).toList.map (fun f => (f.name == "_", f.type, f.offset)) = l
theorem fieldsPen : fieldsAre Tryz.prog 103 [(false, 5, 0), (false, 5, 1), (false, 5, 2)] := by unfold fieldsAre; kernel_rfl
theorem fieldsP : fieldsAre Tryz.prog 98 [(false, 5, 0), (false, 5, 1), (false, 5, 2)] := by unfold fieldsAre; kernel_rfl
theorem fieldsCell : fieldsAre Tryz.prog 105 [(false, 21, 0), (false, 102, 1), (false, 5, 3), (false, 103, 4)] := by unfold fieldsAre; kernel_rfl
theorem fieldsC : fieldsAre Tryz.prog 100 [(false, 3, 0), (false, 96, 1), (false, 5, 3), (false, 98, 4)] := by unfold fieldsAre; kernel_rfl

theorem part5 (xs : Array Value) (i : Nat) (x : Int) (h : xs[i]? = some (.int .u8 x)) (w : World) : (part 5 xs i).run Tryz.prog w = .ok (.int .u8 x) w := by
  unfold part
  simp [go_sem, h]
theorem part21 (xs : Array Value) (i : Nat) (x : Int) (h : xs[i]? = some (.int .i32 x)) (w : World) : (part 21 xs i).run Tryz.prog w = .ok (.int .i32 x) w := by
  unfold part
  simp [go_sem, h]
theorem part3 (xs : Array Value) (i : Nat) (x : Int) (h : xs[i]? = some (.int .i64 x)) (w : World) : (part 3 xs i).run Tryz.prog w = .ok (.int .i64 x) w := by
  unfold part
  simp [go_sem, h]
theorem equalP (t : TypeId) (ht : Tryz.prog.underlying t = some (.struct (Tryz.prog.fieldsOf t))) (hp : Tryz.prog.stoodInHeld t = false) (h3 : fieldsAre Tryz.prog t [(false, 5, 0), (false, 5, 1), (false, 5, 2)]) (d : Nat) (w : World) (f g b f' g' b' : Int) :
    (Op.equalIn (d + 2) t (.agg #[.int .u8 f, .int .u8 g, .int .u8 b]) (.agg #[.int .u8 f', .int .u8 g', .int .u8 b'])).run Tryz.prog w = .ok (eqP f g b f' g' b') w := by
  rw [run_equalIn_agg w (d + 1) t _ _ ht hp]
  unfold fieldsAre at h3
  generalize (Tryz.prog.fieldsOf t).toList = fs at h3
  have hl : fs.length = 3 := by have := congrArg List.length h3; simpa using this
  match fs, hl with
  | [f0, f1, f2], _ =>
    simp only [List.map_cons, List.map_nil, List.cons.injEq, Prod.mk.injEq, beq_eq_false_iff_ne, ne_eq, and_true] at h3
    obtain ⟨⟨n0, t0, o0⟩, ⟨n1, t1, o1⟩, n2, t2, o2⟩ := h3
    simp only [Op.eqFields, n0, n1, n2, t0, t1, t2, o0, o1, o2, ne_eq, not_false_eq_true, if_true, Sem.run_bind, part5 #[Value.int .u8 f, .int .u8 g, .int .u8 b] 0 f rfl, part5 #[Value.int .u8 f, .int .u8 g, .int .u8 b] 1 g rfl, part5 #[Value.int .u8 f, .int .u8 g, .int .u8 b] 2 b rfl,
      part5 #[Value.int .u8 f', .int .u8 g', .int .u8 b'] 0 f' rfl, part5 #[Value.int .u8 f', .int .u8 g', .int .u8 b'] 1 g' rfl, part5 #[Value.int .u8 f', .int .u8 g', .int .u8 b'] 2 b' rfl, Result.andThen_ok, run_equalIn_int w d 5 .u8 .u8 _ _ Tryz.underlying5, Sem.run_ite, Sem.run_pure]
    unfold eqP
    cases hf : f == f' <;> cases hg : g == g' <;> cases hb : b == b' <;> simp
theorem cellsI32 : Tryz.prog.cellsOf 21 = 1 := by kernel_rfl
theorem cellsI64 : Tryz.prog.cellsOf 3 = 1 := by kernel_rfl
theorem infoI32 : ∃ i, Tryz.prog.info? 21 = some i := Option.isSome_iff_exists.1 (by kernel_rfl)
theorem infoI64 : ∃ i, Tryz.prog.info? 3 = some i := Option.isSome_iff_exists.1 (by kernel_rfl)
theorem equalM (d : Nat) (w : World) (m n m' n' : Int) : (Op.equalIn (d + 2) 102 (.agg #[.int .i32 m, .int .i32 n]) (.agg #[.int .i32 m', .int .i32 n'])).run Tryz.prog w = .ok (eqM m n m' n') w := by
  obtain ⟨i, hi⟩ := infoI32
  rw [run_equalIn_array w (d + 1) _ _ Tryz.underlying102 hi, cellsI32]
  have hr : List.range 2 = [0, 1] := rfl
  rw [hr]
  simp only [Op.eqItems, Sem.run_bind, Nat.zero_mul, Nat.one_mul, part21 #[Value.int .i32 m, .int .i32 n] 0 m rfl, part21 #[Value.int .i32 m, .int .i32 n] 1 n rfl, part21 #[Value.int .i32 m', .int .i32 n'] 0 m' rfl, part21 #[Value.int .i32 m', .int .i32 n'] 1 n' rfl, Result.andThen_ok, run_equalIn_int w d 21 .i32 .i32 _ _ Tryz.underlying21, Sem.run_ite, Sem.run_pure]
  unfold eqM
  cases hf : m == m' <;> cases hg : n == n' <;> simp
theorem equalMI (d : Nat) (w : World) (m n m' n' : Int) : (Op.equalIn (d + 2) 96 (.agg #[.int .i64 m, .int .i64 n]) (.agg #[.int .i64 m', .int .i64 n'])).run Tryz.prog w = .ok (eqM m n m' n') w := by
  obtain ⟨i, hi⟩ := infoI64
  rw [run_equalIn_array w (d + 1) _ _ Tryz.underlying96 hi, cellsI64]
  have hr : List.range 2 = [0, 1] := rfl
  rw [hr]
  simp only [Op.eqItems, Sem.run_bind, Nat.zero_mul, Nat.one_mul, part3 #[Value.int .i64 m, .int .i64 n] 0 m rfl, part3 #[Value.int .i64 m, .int .i64 n] 1 n rfl, part3 #[Value.int .i64 m', .int .i64 n'] 0 m' rfl, part3 #[Value.int .i64 m', .int .i64 n'] 1 n' rfl, Result.andThen_ok, run_equalIn_int w d 3 .i64 .i64 _ _ Tryz.underlying3, Sem.run_ite, Sem.run_pure]
  unfold eqM
  cases hf : m == m' <;> cases hg : n == n' <;> simp
theorem partM (r m n w f g b : Value) (W : World) : (part 102 #[r, m, n, w, f, g, b] 1).run Tryz.prog W = .ok (.agg #[m, n]) W := by kernel_rfl
theorem partMI (r m n w f g b : Value) (W : World) : (part 96 #[r, m, n, w, f, g, b] 1).run Tryz.prog W = .ok (.agg #[m, n]) W := by kernel_rfl
theorem partPen (r m n w f g b : Value) (W : World) : (part 103 #[r, m, n, w, f, g, b] 4).run Tryz.prog W = .ok (.agg #[f, g, b]) W := by kernel_rfl
theorem partP (r m n w f g b : Value) (W : World) : (part 98 #[r, m, n, w, f, g, b] 4).run Tryz.prog W = .ok (.agg #[f, g, b]) W := by kernel_rfl
theorem equalCell (d : Nat) (W : World) (r m n w f g b r' m' n' w' f' g' b' : Int) :
    (Op.equalIn (d + 3) 105 (.agg #[.int .i32 r, .int .i32 m, .int .i32 n, .int .u8 w, .int .u8 f, .int .u8 g, .int .u8 b]) (.agg #[.int .i32 r', .int .i32 m', .int .i32 n', .int .u8 w', .int .u8 f', .int .u8 g', .int .u8 b'])).run Tryz.prog W = .ok (eqC r m n w f g b r' m' n' w' f' g' b') W := by
  rw [run_equalIn_agg W (d + 2) 105 _ _ Tryz.underlying105 Tryz.stoodInHeld105]
  have h3 := fieldsCell
  unfold fieldsAre at h3
  generalize (Tryz.prog.fieldsOf 105).toList = fs at h3
  have hl : fs.length = 4 := by have := congrArg List.length h3; simpa using this
  match fs, hl with
  | [f0, f1, f2, f3], _ =>
    simp only [List.map_cons, List.map_nil, List.cons.injEq, Prod.mk.injEq, beq_eq_false_iff_ne, ne_eq, and_true] at h3
    obtain ⟨⟨n0, t0, o0⟩, ⟨n1, t1, o1⟩, ⟨n2, t2, o2⟩, n3, t3, o3⟩ := h3
    simp only [Op.eqFields, n0, n1, n2, n3, t0, t1, t2, t3, o0, o1, o2, o3, ne_eq, not_false_eq_true, if_true, Sem.run_bind, partM, partPen,
      part21 #[Value.int .i32 r, .int .i32 m, .int .i32 n, .int .u8 w, .int .u8 f, .int .u8 g, .int .u8 b] 0 r rfl, part21 #[Value.int .i32 r', .int .i32 m', .int .i32 n', .int .u8 w', .int .u8 f', .int .u8 g', .int .u8 b'] 0 r' rfl,
      part5 #[Value.int .i32 r, .int .i32 m, .int .i32 n, .int .u8 w, .int .u8 f, .int .u8 g, .int .u8 b] 3 w rfl, part5 #[Value.int .i32 r', .int .i32 m', .int .i32 n', .int .u8 w', .int .u8 f', .int .u8 g', .int .u8 b'] 3 w' rfl,
      Result.andThen_ok, run_equalIn_int W (d + 1) 5 .u8 .u8 _ _ Tryz.underlying5, run_equalIn_int W (d + 1) 21 .i32 .i32 _ _ Tryz.underlying21, equalM d, equalP 103 Tryz.underlying103 Tryz.stoodInHeld103 fieldsPen d, Sem.run_ite, Sem.run_pure]
    unfold eqC
    cases r == r' <;> cases eqM m n m' n' <;> cases w == w' <;> cases eqP f g b f' g' b' <;> simp
theorem equalC (d : Nat) (W : World) (r m n w f g b r' m' n' w' f' g' b' : Int) :
    (Op.equalIn (d + 3) 100 (.agg #[.int .i64 r, .int .i64 m, .int .i64 n, .int .u8 w, .int .u8 f, .int .u8 g, .int .u8 b]) (.agg #[.int .i64 r', .int .i64 m', .int .i64 n', .int .u8 w', .int .u8 f', .int .u8 g', .int .u8 b'])).run Tryz.prog W = .ok (eqC r m n w f g b r' m' n' w' f' g' b') W := by
  rw [run_equalIn_agg W (d + 2) 100 _ _ Tryz.underlying100 Tryz.stoodInHeld100]
  have h3 := fieldsC
  unfold fieldsAre at h3
  generalize (Tryz.prog.fieldsOf 100).toList = fs at h3
  have hl : fs.length = 4 := by have := congrArg List.length h3; simpa using this
  match fs, hl with
  | [f0, f1, f2, f3], _ =>
    simp only [List.map_cons, List.map_nil, List.cons.injEq, Prod.mk.injEq, beq_eq_false_iff_ne, ne_eq, and_true] at h3
    obtain ⟨⟨n0, t0, o0⟩, ⟨n1, t1, o1⟩, ⟨n2, t2, o2⟩, n3, t3, o3⟩ := h3
    simp only [Op.eqFields, n0, n1, n2, n3, t0, t1, t2, t3, o0, o1, o2, o3, ne_eq, not_false_eq_true, if_true, Sem.run_bind, partMI, partP,
      part3 #[Value.int .i64 r, .int .i64 m, .int .i64 n, .int .u8 w, .int .u8 f, .int .u8 g, .int .u8 b] 0 r rfl, part3 #[Value.int .i64 r', .int .i64 m', .int .i64 n', .int .u8 w', .int .u8 f', .int .u8 g', .int .u8 b'] 0 r' rfl,
      part5 #[Value.int .i64 r, .int .i64 m, .int .i64 n, .int .u8 w, .int .u8 f, .int .u8 g, .int .u8 b] 3 w rfl, part5 #[Value.int .i64 r', .int .i64 m', .int .i64 n', .int .u8 w', .int .u8 f', .int .u8 g', .int .u8 b'] 3 w' rfl,
      Result.andThen_ok, run_equalIn_int W (d + 1) 5 .u8 .u8 _ _ Tryz.underlying5, run_equalIn_int W (d + 1) 3 .i64 .i64 _ _ Tryz.underlying3, equalMI d, equalP 98 Tryz.underlying98 Tryz.stoodInHeld98 fieldsP d, Sem.run_ite, Sem.run_pure]
    unfold eqC
    cases r == r' <;> cases eqM m n m' n' <;> cases w == w' <;> cases eqP f g b f' g' b' <;> simp
theorem eqlPen (f g b f' g' b' : Int) (w : World) : (binOp .eql 103 (.agg #[.int .u8 f, .int .u8 g, .int .u8 b]) (.agg #[.int .u8 f', .int .u8 g', .int .u8 b'])).run Tryz.prog w = .ok (.bool (eqP f g b f' g' b')) w := by
  rw [run_eql_struct, equalP 103 Tryz.underlying103 Tryz.stoodInHeld103 fieldsPen 9998]; rfl
theorem eqlCell (W : World) (r m n w f g b r' m' n' w' f' g' b' : Int) :
    (binOp .eql 105 (.agg #[.int .i32 r, .int .i32 m, .int .i32 n, .int .u8 w, .int .u8 f, .int .u8 g, .int .u8 b]) (.agg #[.int .i32 r', .int .i32 m', .int .i32 n', .int .u8 w', .int .u8 f', .int .u8 g', .int .u8 b'])).run Tryz.prog W = .ok (.bool (eqC r m n w f g b r' m' n' w' f' g' b')) W := by
  rw [run_eql_struct, equalCell 9997]; rfl
theorem eqlC (W : World) (r m n w f g b r' m' n' w' f' g' b' : Int) :
    (binOp .eql 100 (.agg #[.int .i64 r, .int .i64 m, .int .i64 n, .int .u8 w, .int .u8 f, .int .u8 g, .int .u8 b]) (.agg #[.int .i64 r', .int .i64 m', .int .i64 n', .int .u8 w', .int .u8 f', .int .u8 g', .int .u8 b'])).run Tryz.prog W = .ok (.bool (eqC r m n w f g b r' m' n' w' f' g' b')) W := by
  rw [run_eql_struct, equalC 9997]; rfl
theorem eqC_iff (r m n w f g b r' m' n' w' f' g' b' : Int) : eqC r m n w f g b r' m' n' w' f' g' b' = decide (r = r' ∧ m = m' ∧ n = n' ∧ w = w' ∧ f = f' ∧ g = g' ∧ b = b') := by
  unfold eqC eqM eqP; rw [Bool.eq_iff_iff]; simp; grind
theorem eqC_self (r m n w f g b : Int) : eqC r m n w f g b r m n w f g b = true := by rw [eqC_iff]; simp
/-- A cell's seven numbers, the runes of kind k. -/
def cellL (k : IntKind) (c : Cel) : List Value := [.int k c.r, .int k c.m, .int k c.n, .int .u8 (c.w : Int), .int .u8 (c.p.f : Int), .int .u8 (c.p.g : Int), .int .u8 (c.p.b : Int)]
/-- The call answered with this cell, and left all that was there. -/
def Celled (k : IntKind) (c : Cel) (w : World) (e : Ending) (w' : World) : Prop := e = .returned (.agg #[.int k c.r, .int k c.m, .int k c.n, .int .u8 (c.w : Int), .int .u8 (c.p.f : Int), .int .u8 (c.p.g : Int), .int .u8 (c.p.b : Int)]) ∧ Below w.heap.size w w'
theorem whole_snd (w : World) (o : Obj) (t : TypeId) (l : List Value) : Whole ((w.alloc o).alloc (.cells l.toArray t)) (w.heap.size + 1) t l := by
  have := Whole.new (w.alloc o) t l
  have e : (w.alloc o).heap.size = w.heap.size + 1 := by simp
  rw [e] at this
  exact this
theorem put7 {w : World} {q : Nat} {t : TypeId} {y0 y1 y2 y3 y4 y5 y6 : Value} (hw : Whole w q t [y0, y1, y2, y3, y4, y5, y6]) (x0 x1 x2 x3 x4 x5 x6 : Value) : Whole (((((((w.setCell ⟨q, 0, none⟩ x0).setCell ⟨q, 1, none⟩ x1).setCell ⟨q, 2, none⟩ x2).setCell ⟨q, 3, none⟩ x3).setCell ⟨q, 4, none⟩ x4).setCell ⟨q, 5, none⟩ x5).setCell ⟨q, 6, none⟩ x6) q t [x0, x1, x2, x3, x4, x5, x6] :=
  ((((((hw.put 0 x0).put 1 x1).put 2 x2).put 3 x3).put 4 x4).put 5 x5).put 6 x6
theorem ret7 {R : Ending → World → Prop} {a : Act} {w : World} {fn : Func} {s : Nat} {q t : Nat} {x0 x1 x2 x3 x4 x5 x6 : Value} (hr : fn.results = #[.cell s t]) (ht : t = 105 ∨ t = 100) (h4 : a.tmps.getD s undef = .pointer (some ⟨q, 0, none⟩)) (hd : a.defers = [])
    (hw : Whole w q t [x0, x1, x2, x3, x4, x5, x6]) (hR : R (.returned (.agg #[x0, x1, x2, x3, x4, x5, x6])) w) : bodyPost Tryz.prog fn R .ret a w := by
  have c0 : w.cell? ⟨q, 0, none⟩ = some x0 := hw.cell 0
  have c1 : w.cell? ⟨q, 1, none⟩ = some x1 := hw.cell 1
  have c2 : w.cell? ⟨q, 2, none⟩ = some x2 := hw.cell 2
  have c3 : w.cell? ⟨q, 3, none⟩ = some x3 := hw.cell 3
  have c4 : w.cell? ⟨q, 4, none⟩ = some x4 := hw.cell 4
  have c5 : w.cell? ⟨q, 5, none⟩ = some x5 := hw.cell 5
  have c6 : w.cell? ⟨q, 6, none⟩ = some x6 := hw.cell 6
  clear hw
  rw [Array.getD_eq_getD_getElem?] at h4
  rcases ht with rfl | rfl
  · exact bodyPost_ret (v := .agg #[x0, x1, x2, x3, x4, x5, x6]) (by simp [results, hr, h4, c0, c1, c2, c3, c4, c5, c6, go_sem]) hd hR
  · exact bodyPost_ret (v := .agg #[x0, x1, x2, x3, x4, x5, x6]) (by simp [results, hr, h4, c0, c1, c2, c3, c4, c5, c6, go_sem]) hd hR
/-! ### pens -/
theorem eqP_right (f g b : Nat) : eqP (f : Int) (g : Int) (b : Int) (min (f : Int) 31) (min (g : Int) 16) (min (b : Int) 16) = rightN ⟨f, g, b⟩ := by
  unfold eqP rightN
  rw [Bool.eq_iff_iff]
  simp
  omega
theorem right_any (f g b : Nat) (w : World) : Calls Tryz.prog 75 #[.agg #[.int .u8 (f : Int), .int .u8 (g : Int), .int .u8 (b : Int)]] w (Said (rightN ⟨f, g, b⟩) w) := by
  have e1 := eqlPen
  go_enter Tryz.func75, Tryz.ntmps75
  go_wp2
  go_ret
  exact ⟨ret_bool (eqP_right f g b), (Below.refl _ _).alloc (Nat.le_refl _) _⟩
theorem rright_any (f g b : Nat) (w : World) : Calls Tryz.prog 73 #[.agg #[.int .u8 (f : Int), .int .u8 (g : Int), .int .u8 (b : Int)]] w (Said (rightN ⟨f, g, b⟩) w) := by
  by_cases h1 : (f : Int) ≤ 31
  · by_cases h2 : (g : Int) ≤ 16
    · by_cases h3 : (b : Int) ≤ 16
      · have H : Hid (rightN ⟨f, g, b⟩ = true) := by unfold Hid rightN; simp; omega
        go_enter Tryz.func73, Tryz.ntmps73
        go_wp2
        go_ret
        exact ⟨ret_bool H.out.symm, (Below.refl _ _).alloc (Nat.le_refl _) _⟩
      · have H : Hid (rightN ⟨f, g, b⟩ = false) := by unfold Hid rightN; simp; omega
        go_enter Tryz.func73, Tryz.ntmps73
        go_wp2
        go_ret
        exact ⟨ret_bool H.out.symm, (Below.refl _ _).alloc (Nat.le_refl _) _⟩
    · have H : Hid (rightN ⟨f, g, b⟩ = false) := by unfold Hid rightN; simp; omega
      go_enter Tryz.func73, Tryz.ntmps73
      go_wp2
      go_ret
      exact ⟨ret_bool H.out.symm, (Below.refl _ _).alloc (Nat.le_refl _) _⟩
  · have H : Hid (rightN ⟨f, g, b⟩ = false) := by unfold Hid rightN; simp; omega
    go_enter Tryz.func73, Tryz.ntmps73
    go_wp2
    go_ret
    exact ⟨ret_bool H.out.symm, (Below.refl _ _).alloc (Nat.le_refl _) _⟩

/-! ### cells -/
theorem two_new (w : World) (t u : TypeId) (l m : List Value) : Below w.heap.size w ((w.alloc (.cells l.toArray t)).alloc (.cells m.toArray u)) := ((Below.refl _ _).alloc (Nat.le_refl _) _).alloc (by simp) _
theorem rest_any (r m n : Int) (d f g b : Nat) (w : World) : Calls Tryz.prog 76 #[.agg #[.int .i32 r, .int .i32 m, .int .i32 n, .int .u8 (d : Int), .int .u8 (f : Int), .int .u8 (g : Int), .int .u8 (b : Int)]] w (Celled .i32 (restC ⟨r, m, n, d, ⟨f, g, b⟩⟩) w) := by
  go_enter Tryz.func76, Tryz.ntmps76
  go_wp2
  exact ret7 Tryz.results76 (.inl rfl) rfl rfl (whole_snd w _ 105 [.int .i32 0, .int .i32 0, .int .i32 0, .int .u8 (0 : Int), .int .u8 (f : Int), .int .u8 (g : Int), .int .u8 (b : Int)]) ⟨rfl, two_new w _ _ _ _⟩
theorem whole_thd (w : World) (o o2 : Obj) (t : TypeId) (l : List Value) : Whole (((w.alloc o).alloc o2).alloc (.cells l.toArray t)) (w.heap.size + 2) t l := by
  have := whole_snd (w.alloc o) o2 t l
  have e : (w.alloc o).heap.size = w.heap.size + 1 := by simp
  rw [e] at this
  exact this
/-- A number of 32 bits. -/
def R32 (x : Int) : Prop := -2147483648 ≤ x ∧ x ≤ 2147483647
theorem lof_any (r m n : Int) (d f g b : Nat) (hr : R32 r) (hm : R32 m) (hn : R32 n) (w : World) : Calls Tryz.prog 50 #[.agg #[.int .i32 r, .int .i32 m, .int .i32 n, .int .u8 (d : Int), .int .u8 (f : Int), .int .u8 (g : Int), .int .u8 (b : Int)]] w (Celled .i64 ⟨r, m, n, d, ⟨f, g, b⟩⟩ w) := by
  obtain ⟨r1, r2⟩ := hr
  obtain ⟨m1, m2⟩ := hm
  obtain ⟨n1, n2⟩ := hn
  go_enter Tryz.func50, Tryz.ntmps50
  go_wp2
  exact ret7 Tryz.results50 (.inr rfl) rfl rfl (whole_snd w _ 100 [.int .i64 r, .int .i64 m, .int .i64 n, .int .u8 (d : Int), .int .u8 (f : Int), .int .u8 (g : Int), .int .u8 (b : Int)]) ⟨rfl, two_new w _ _ _ _⟩
theorem bears_1 (r m n : Int) (d f g b : Nat) (h : d = 1) : bearsC ⟨r, m, n, d, ⟨f, g, b⟩⟩ = true := by unfold bearsC; simp [h]
theorem bears_2 (r m n : Int) (d f g b : Nat) (h : d = 2) : bearsC ⟨r, m, n, d, ⟨f, g, b⟩⟩ = true := by unfold bearsC; simp [h]
theorem bears_no (r m n : Int) (d f g b : Nat) (h : ¬ d = 1) (h2 : ¬ d = 2) : bearsC ⟨r, m, n, d, ⟨f, g, b⟩⟩ = false := by unfold bearsC; simp [h, h2]
theorem bears_any (r m n : Int) (d f g b : Nat) (w : World) : Calls Tryz.prog 96 #[.agg #[.int .i32 r, .int .i32 m, .int .i32 n, .int .u8 (d : Int), .int .u8 (f : Int), .int .u8 (g : Int), .int .u8 (b : Int)]] w (Said (bearsC ⟨r, m, n, d, ⟨f, g, b⟩⟩) w) := by
  by_cases h1 : d = 1
  · have H := hide (bears_1 r m n d f g b h1)
    have e1 : ((d : Int) == 1) = true := by simp; omega
    clear h1
    go_enter Tryz.func96, Tryz.ntmps96
    go_wp2
    go_ret
    exact ⟨ret_bool H.out.symm, (Below.refl _ _).alloc (Nat.le_refl _) _⟩
  · by_cases h2 : d = 2
    · have H := hide (bears_2 r m n d f g b h2)
      have e1 : ((d : Int) == 1) = false := by simp; omega
      have e2 : ((d : Int) == 2) = true := by simp; omega
      clear h1 h2
      go_enter Tryz.func96, Tryz.ntmps96
      go_wp2
      go_ret
      exact ⟨ret_bool H.out.symm, (Below.refl _ _).alloc (Nat.le_refl _) _⟩
    · have H := hide (bears_no r m n d f g b h1 h2)
      have e1 : ((d : Int) == 1) = false := by simp; omega
      have e2 : ((d : Int) == 2) = false := by simp; omega
      clear h1 h2
      go_enter Tryz.func96, Tryz.ntmps96
      go_wp2
      go_ret
      exact ⟨ret_bool H.out.symm, (Below.refl _ _).alloc (Nat.le_refl _) _⟩
end
end Go.Proofs.YtcbdokocnjoilaaGreatDoor
