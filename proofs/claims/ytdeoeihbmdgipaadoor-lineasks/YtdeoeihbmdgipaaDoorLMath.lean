/-
  Plain mathematics of layer 6 (line): halves that are alone, what is mended, put, erased, fitted, marked, used, and which lines are right. No Go text, no program.
-/
import Derived.Test.YtdeoeihbmdgipaaDoorCMath
namespace Go.Proofs.YtdeoeihbmdgipaaDoor
set_option linter.unusedVariables false

/-- The cell at a place. -/
def cAt (l : List Cel) (i : Nat) : Cel := l.getD i zeroC
/-- The width at a place; 9 beyond the end. -/
def wAt (l : List Cel) (i : Nat) : Nat := ((l[i]?).map (·.w)).getD 9
/-- A line of n cells, by a rule. -/
def tab (n : Nat) (f : Nat → Cel) : List Cel := (List.range n).map f

theorem tab_len (n : Nat) (f : Nat → Cel) : (tab n f).length = n := by simp [tab]
theorem tab_get (n : Nat) (f : Nat → Cel) (i : Nat) (h : i < n) : (tab n f)[i]? = some (f i) := by simp [tab, h]
theorem tab_no (n : Nat) (f : Nat → Cel) (i : Nat) (h : n ≤ i) : (tab n f)[i]? = none := by simp [tab, h]
theorem tab_cAt (n : Nat) (f : Nat → Cel) (i : Nat) (h : i < n) : cAt (tab n f) i = f i := by
  unfold cAt; rw [List.getD_eq_getElem?_getD, tab_get n f i h]; rfl
theorem tab_snoc (n : Nat) (f : Nat → Cel) : tab (n + 1) f = tab n f ++ [f n] := by simp [tab, List.range_succ]
theorem tab_nil (f : Nat → Cel) : tab 0 f = [] := rfl
theorem get_cAt (l : List Cel) (i : Nat) (h : i < l.length) : l[i]? = some (cAt l i) := by
  unfold cAt; rw [List.getD_eq_getElem?_getD, List.getElem?_eq_getElem h]; rfl
theorem tab_self (l : List Cel) : tab l.length (cAt l) = l := by
  apply List.ext_getElem?
  intro i
  by_cases h : i < l.length
  · rw [tab_get _ _ _ h, get_cAt l i h]
  · rw [tab_no _ _ _ (by omega), List.getElem?_eq_none (by omega)]
theorem tab_eq {n : Nat} {f g : Nat → Cel} (h : ∀ i, i < n → f i = g i) : tab n f = tab n g := by
  apply List.ext_getElem?
  intro i
  by_cases hi : i < n
  · rw [tab_get _ _ _ hi, tab_get _ _ _ hi, h i hi]
  · rw [tab_no _ _ _ (by omega), tab_no _ _ _ (by omega)]
theorem tab_is {l : List Cel} {n : Nat} {f : Nat → Cel} (hn : l.length = n) (h : ∀ i, i < n → cAt l i = f i) : l = tab n f := by
  subst hn; rw [← tab_eq h, tab_self]
theorem wAt_in (l : List Cel) (i : Nat) (h : i < l.length) : wAt l i = (cAt l i).w := by unfold wAt; rw [get_cAt l i h]; rfl
theorem wAt_out (l : List Cel) (i : Nat) (h : l.length ≤ i) : wAt l i = 9 := by unfold wAt; rw [List.getElem?_eq_none h]; rfl
theorem tab_set (n : Nat) (f : Nat → Cel) (k : Nat) (c : Cel) : (tab n f).set k c = tab n (fun i => if i = k then c else f i) := by
  apply List.ext_getElem?
  intro i
  rw [List.getElem?_set, tab_len]
  by_cases hi : i < n
  · rw [tab_get _ _ _ hi, tab_get _ _ _ hi]
    by_cases hk : k = i
    · subst hk; simp [hi]
    · simp [hk, Ne.symm hk]
  · rw [tab_no _ _ _ (by omega), tab_no _ _ _ (by omega)]
    by_cases hk : k = i
    · subst hk; simp [hi]
    · simp [hk]
theorem set_tab (l : List Cel) (k : Nat) (c : Cel) : l.set k c = tab l.length (fun i => if i = k then c else cAt l i) := by
  conv => lhs; rw [← tab_self l]
  exact tab_set _ _ _ _

/-- Is a half alone? -/
def aloneC (l : List Cel) (i : Nat) : Bool :=
  if wAt l i = 2 then decide (wAt l (i + 1) ≠ 0) else if wAt l i = 0 then decide (i = 0 ∨ wAt l (i - 1) ≠ 2) else false
def mendAt (l : List Cel) (i : Nat) : Cel := if aloneC l i = true then blankC (cAt l i).p else cAt l i
def mendC (l : List Cel) : List Cel := tab l.length (mendAt l)
theorem mend_len (l : List Cel) : (mendC l).length = l.length := tab_len _ _

def lenN (n : Int) : Nat := (min (max n 0) 512).toNat
theorem lenN_le (n : Int) : lenN n ≤ 512 := by unfold lenN; omega
def newC (n : Int) : List Cel := tab (lenN n) (fun _ => blankC zeroP)
def putTab (l : List Cel) (k : Nat) (c : Cel) : List Cel := tab l.length (fun i => if i = k then c else if i = k + 1 ∧ c.w = 2 then restC c else cAt l i)
def putOk (l : List Cel) (at_ : Int) (c : Cel) : Bool := decide (rightC c = true ∧ c.w ≠ 0 ∧ 0 ≤ at_ ∧ at_ + (c.w : Int) ≤ (l.length : Int))
def putC (l : List Cel) (at_ : Int) (c : Cel) : List Cel := if putOk l at_ c = true then mendC (putTab l at_.toNat c) else l
def eraseTab (l : List Cel) (from_ to : Int) (p : Pn) : List Cel := tab l.length (fun i => if from_ ≤ (i : Int) ∧ (i : Int) < to then blankC p else cAt l i)
def eraseC (l : List Cel) (from_ to : Int) (p : Pn) : List Cel := mendC (eraseTab l from_ to p)
def fitTab (l : List Cel) (n : Int) : List Cel := tab (lenN n) (fun i => if i < l.length then cAt l i else blankC zeroP)
def fitC (l : List Cel) (n : Int) : List Cel := mendC (fitTab l n)
/-- The place that a mark goes to. -/
def mkAt (l : List Cel) (k : Nat) : Nat := if wAt l k = 0 ∧ 0 < k ∧ wAt l (k - 1) = 2 then k - 1 else k
def lmarkC (l : List Cel) (at_ r : Int) : List Cel × Bool :=
  if 0 ≤ at_ ∧ at_ < (l.length : Int) then (l.set (mkAt l at_.toNat) (markC (cAt l (mkAt l at_.toNat)) r).1, (markC (cAt l (mkAt l at_.toNat)) r).2) else (l, false)
/-- Up to a place: right, no half alone, both halves of one pen. -/
def okAt (l : List Cel) (i : Nat) : Bool := rightC (cAt l i) && (!(aloneC l i) && (!(decide (wAt l i = 0)) || decide ((cAt l i).p = (cAt l (i - 1)).p)))
def okP (l : List Cel) (i : Nat) : Bool := rightC (cAt l i) && (!(aloneC l i) && (!(decide (wAt l i = 2)) || decide (cAt l (i + 1) = restC (cAt l i))))
def rightL (l : List Cel) : Bool := decide (∀ i, i < l.length → okAt l i = true)
def usedTo (l : List Cel) : Nat → Nat
  | 0 => 0
  | k + 1 => if cAt l k = blankC zeroP then usedTo l k else k + 1
def usedC (l : List Cel) : Nat := usedTo l l.length

/-! ### mending in place -/
def mixC (l : List Cel) (k : Nat) : List Cel := tab l.length (fun i => if i < k then mendAt l i else cAt l i)
theorem mix_len (l : List Cel) (k : Nat) : (mixC l k).length = l.length := tab_len _ _
theorem mix_0 (l : List Cel) : mixC l 0 = l := by
  unfold mixC
  conv => rhs; rw [← tab_self l]
  exact tab_eq fun i _ => by simp
theorem mix_all (l : List Cel) (k : Nat) (h : l.length ≤ k) : mixC l k = mendC l := tab_eq fun i hi => by rw [if_pos (by omega)]
theorem mix_at (l : List Cel) (k i : Nat) (hi : i < l.length) : cAt (mixC l k) i = if i < k then mendAt l i else cAt l i := tab_cAt _ _ _ hi
theorem mix_self (l : List Cel) (k : Nat) (h : k < l.length) : cAt (mixC l k) k = cAt l k := by rw [mix_at l k k h]; simp
theorem mendAt_no (l : List Cel) (k : Nat) (h : aloneC l k = false) : mendAt l k = cAt l k := by unfold mendAt; simp [h]
theorem mendAt_yes (l : List Cel) (k : Nat) (h : aloneC l k = true) : mendAt l k = blankC (cAt l k).p := by unfold mendAt; simp [h]
theorem mix_next (l : List Cel) (k : Nat) : mixC l (k + 1) = (mixC l k).set k (mendAt l k) := by
  unfold mixC
  rw [tab_set]
  refine tab_eq fun i hi => ?_
  by_cases h : i = k
  · subst h; simp
  · by_cases h2 : i < k
    · simp [h, h2, show i < k + 1 by omega]
    · simp [h, h2, show ¬ i < k + 1 by omega]
theorem mix_stay (l : List Cel) (k : Nat) (h : k < l.length) (ha : aloneC l k = false) : mixC l (k + 1) = mixC l k := by
  rw [mix_next, mendAt_no l k ha]
  unfold mixC
  rw [tab_set]
  refine tab_eq fun i hi => ?_
  by_cases h : i = k
  · subst h; simp
  · simp [h]
theorem mendAt_w (l : List Cel) (i : Nat) (hi : i < l.length) : (mendAt l i).w = 2 ↔ (wAt l i = 2 ∧ aloneC l i = false) := by
  unfold mendAt
  rw [wAt_in l i hi]
  cases h : aloneC l i <;> simp [blankC]
theorem mix_alone (l : List Cel) (k : Nat) (hk : k < l.length) : aloneC (mixC l k) k = aloneC l k := by
  have e0 : wAt (mixC l k) k = wAt l k := by
    rw [wAt_in _ _ (by rw [mix_len]; exact hk), wAt_in _ _ hk, mix_self l k hk]
  have e1 : wAt (mixC l k) (k + 1) = wAt l (k + 1) := by
    by_cases h : k + 1 < l.length
    · rw [wAt_in _ _ (by rw [mix_len]; exact h), wAt_in _ _ h, mix_at l k _ h]; simp [show ¬ k + 1 < k by omega]
    · rw [wAt_out _ _ (by rw [mix_len]; omega), wAt_out _ _ (by omega)]
  unfold aloneC
  rw [e0, e1]
  by_cases h2 : wAt l k = 2
  · simp [h2]
  · rw [if_neg h2, if_neg h2]
    by_cases h0 : wAt l k = 0
    · rw [if_pos h0, if_pos h0]
      by_cases hz : k = 0
      · simp [hz]
      · have hp : k - 1 < l.length := by omega
        have e2 : wAt (mixC l k) (k - 1) = 2 ↔ wAt l (k - 1) = 2 := by
          rw [wAt_in _ _ (by rw [mix_len]; exact hp), mix_at l k _ hp, if_pos (by omega), mendAt_w l _ hp]
          constructor
          · exact fun h => h.1
          · intro h
            refine ⟨h, ?_⟩
            unfold aloneC
            rw [if_pos h, show k - 1 + 1 = k by omega, h0]
            simp
        simp [hz, e2]
    · rw [if_neg h0, if_neg h0]
theorem mend_cAt (l : List Cel) (i : Nat) (hi : i < l.length) : cAt (mendC l) i = mendAt l i := tab_cAt _ _ _ hi

/-! ### which lines are right: two ways -/
theorem okAt_iff (l : List Cel) (i : Nat) : okAt l i = true ↔ rightC (cAt l i) = true ∧ aloneC l i = false ∧ (wAt l i = 0 → (cAt l i).p = (cAt l (i - 1)).p) := by
  unfold okAt
  simp only [Bool.and_eq_true, Bool.or_eq_true, Bool.not_eq_true', decide_eq_true_iff, decide_eq_false_iff_not]
  constructor
  · rintro ⟨h1, h2, h3⟩; exact ⟨h1, h2, fun h => by rcases h3 with q | q; exact absurd h q; exact q⟩
  · rintro ⟨h1, h2, h3⟩; exact ⟨h1, h2, by by_cases h : wAt l i = 0; exact .inr (h3 h); exact .inl h⟩
theorem okP_iff (l : List Cel) (i : Nat) : okP l i = true ↔ rightC (cAt l i) = true ∧ aloneC l i = false ∧ (wAt l i = 2 → cAt l (i + 1) = restC (cAt l i)) := by
  unfold okP
  simp only [Bool.and_eq_true, Bool.or_eq_true, Bool.not_eq_true', decide_eq_true_iff, decide_eq_false_iff_not]
  constructor
  · rintro ⟨h1, h2, h3⟩; exact ⟨h1, h2, fun h => by rcases h3 with q | q; exact absurd h q; exact q⟩
  · rintro ⟨h1, h2, h3⟩; exact ⟨h1, h2, by by_cases h : wAt l i = 2; exact .inr (h3 h); exact .inl h⟩
theorem alone_2 {l : List Cel} {i : Nat} (h : wAt l i = 2) (ha : aloneC l i = false) : wAt l (i + 1) = 0 := by
  unfold aloneC at ha; rw [if_pos h] at ha; simpa using ha
theorem alone_0 {l : List Cel} {i : Nat} (h : wAt l i = 0) (ha : aloneC l i = false) : i ≠ 0 ∧ wAt l (i - 1) = 2 := by
  unfold aloneC at ha; rw [if_neg (by omega), if_pos h] at ha; simpa using ha
theorem wAt_lt {l : List Cel} {i : Nat} (h : wAt l i ≠ 9) : i < l.length := by
  by_cases q : i < l.length
  · exact q
  · exact absurd (wAt_out l i (by omega)) h
theorem right_w0 {c : Cel} (h : rightC c = true) (h0 : c.w = 0) : c.r = 0 ∧ c.m = 0 ∧ c.n = 0 := by
  unfold rightC at h; simp only [Bool.and_eq_true, if_pos h0, decide_eq_true_iff] at h; exact h.2
theorem right_w {c : Cel} (h : rightC c = true) : c.w = 0 ∨ c.w = 1 ∨ c.w = 2 := by
  unfold rightC at h
  simp only [Bool.and_eq_true] at h
  by_cases h0 : c.w = 0
  · exact .inl h0
  · rw [if_neg h0] at h
    by_cases hb : bearsC c = true
    · unfold bearsC at hb; simp at hb; omega
    · rw [if_neg hb] at h; cases h.2
theorem rightL_P (l : List Cel) : rightL l = decide (∀ i, i < l.length → okP l i = true) := by
  unfold rightL
  rw [Bool.eq_iff_iff, decide_eq_true_iff, decide_eq_true_iff]
  constructor
  · intro H i hi
    obtain ⟨h1, h2, h3⟩ := (okAt_iff l i).1 (H i hi)
    refine (okP_iff l i).2 ⟨h1, h2, fun h => ?_⟩
    have h4 := alone_2 h h2
    have hi1 : i + 1 < l.length := wAt_lt (by omega)
    obtain ⟨k1, k2, k3⟩ := (okAt_iff l (i + 1)).1 (H _ hi1)
    have k4 := k3 h4
    rw [wAt_in l _ hi1] at h4
    obtain ⟨r1, r2, r3⟩ := right_w0 k1 h4
    rw [show i + 1 - 1 = i by omega] at k4
    generalize cAt l (i + 1) = c at *
    obtain ⟨r, m, n, w, p⟩ := c
    simp only at r1 r2 r3 h4 k4
    subst r1 r2 r3 h4 k4
    rfl
  · intro H i hi
    obtain ⟨h1, h2, h3⟩ := (okP_iff l i).1 (H i hi)
    refine (okAt_iff l i).2 ⟨h1, h2, fun h => ?_⟩
    obtain ⟨h4, h5⟩ := alone_0 h h2
    have hi1 : i - 1 < l.length := by omega
    obtain ⟨k1, k2, k3⟩ := (okP_iff l (i - 1)).1 (H _ hi1)
    have k4 := k3 h5
    rw [show i - 1 + 1 = i by omega] at k4
    rw [k4]; rfl
theorem rightL_iff (l : List Cel) : rightL l = true ↔ ∀ i, i < l.length → okAt l i = true := by unfold rightL; rw [decide_eq_true_iff]
theorem rightL_no (l : List Cel) (i : Nat) (hi : i < l.length) (h : okAt l i = false) : rightL l = false := by
  cases q : rightL l
  · rfl
  · rw [(rightL_iff l).1 q i hi] at h; cases h
theorem rightL_noP (l : List Cel) (i : Nat) (hi : i < l.length) (h : okP l i = false) : rightL l = false := by
  cases q : rightL l
  · rfl
  · rw [rightL_P, decide_eq_true_iff] at q; rw [q i hi] at h; cases h
theorem rightL_yesP (l : List Cel) (h : ∀ i, i < l.length → okP l i = true) : rightL l = true := by rw [rightL_P, decide_eq_true_iff]; exact h
theorem usedTo_le (l : List Cel) (k : Nat) : usedTo l k ≤ k := by
  induction k with
  | zero => exact Nat.le_refl _
  | succ k ih => unfold usedTo; split <;> omega
end Go.Proofs.YtdeoeihbmdgipaaDoor
