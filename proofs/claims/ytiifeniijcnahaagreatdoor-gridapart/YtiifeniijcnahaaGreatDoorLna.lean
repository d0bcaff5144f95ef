/-
  Plain mathematics of layer 6 (line): halves that are alone, what is mended, put, erased, fitted, marked, used, and which lines are right. No Go text, no program.
  Rows of cells: read, and made by a call.
  Contracts: is a half alone (both).
  Rows of cells that a call makes: made zero, copied onto, appended to, stored into.
  Contracts: a line in memory of its own, filled, mended.
  Contracts: so many blanks; a line, mended; a part of a line; a line of another length.
-/
import Derived.Test.YtiifeniijcnahaaGreatDoorCea
import Derived.Laws.CopyOwn
import Derived.Laws.OwnMore
import Derived.OwnWalk
import Derived.Test.YtiifeniijcnahaaGreatDoorCeb
namespace Go.Proofs.YtiifeniijcnahaaGreatDoor
set_option maxRecDepth 100000
set_option linter.unusedVariables false

/-- The cell at a place. -/
def cAt (l : List Cel) (i : Nat) : Cel := l.getD i zeroC
/-- The width at a place; 9 beyond the end. -/
def wAt (l : List Cel) (i : Nat) : Nat := ((l[i]?).map (·.w)).getD 9
/-- A line of n cells, by a rule. -/
def tab (n : Nat) (f : Nat → Cel) : List Cel := (List.range n).map f

theorem tab_len (n : Nat) (f : Nat → Cel) : (tab n f).length = n := by simp [tab]
theorem tab_get (n : Nat) (f : Nat → Cel) (i : Nat) (h : i < n) : (tab n f)[i]? = some (f i) := by simp [tab, h]
theorem tab_no (n : Nat) (f : Nat → Cel) (i : Nat) (h : n ≤ i) : (tab n f)[i]? = none := by simp [tab, h]
theorem tab_cAt (n : Nat) (f : Nat → Cel) (i : Nat) (h : i < n) : cAt (tab n f) i = f i := by
  unfold cAt; rw [List.getD_eq_getElem?_getD, tab_get n f i h]; rfl
theorem tab_snoc (n : Nat) (f : Nat → Cel) : tab (n + 1) f = tab n f ++ [f n] := by simp [tab, List.range_succ]
theorem tab_nil (f : Nat → Cel) : tab 0 f = [] := rfl
theorem get_cAt (l : List Cel) (i : Nat) (h : i < l.length) : l[i]? = some (cAt l i) := by
  unfold cAt; rw [List.getD_eq_getElem?_getD, List.getElem?_eq_getElem h]; rfl
theorem tab_self (l : List Cel) : tab l.length (cAt l) = l := by
  apply List.ext_getElem?
  intro i
  by_cases h : i < l.length
  · rw [tab_get _ _ _ h, get_cAt l i h]
  · rw [tab_no _ _ _ (by omega), List.getElem?_eq_none (by omega)]
theorem tab_eq {n : Nat} {f g : Nat → Cel} (h : ∀ i, i < n → f i = g i) : tab n f = tab n g := by
  apply List.ext_getElem?
  intro i
  by_cases hi : i < n
  · rw [tab_get _ _ _ hi, tab_get _ _ _ hi, h i hi]
  · rw [tab_no _ _ _ (by omega), tab_no _ _ _ (by omega)]
theorem tab_is {l : List Cel} {n : Nat} {f : Nat → Cel} (hn : l.length = n) (h : ∀ i, i < n → cAt l i = f i) : l = tab n f := by
  subst hn; rw [← tab_eq h, tab_self]
theorem wAt_in (l : List Cel) (i : Nat) (h : i < l.length) : wAt l i = (cAt l i).w := by unfold wAt; rw [get_cAt l i h]; rfl
theorem wAt_out (l : List Cel) (i : Nat) (h : l.length ≤ i) : wAt l i = 9 := by unfold wAt; rw [List.getElem?_eq_none h]; rfl
theorem tab_set (n : Nat) (f : Nat → Cel) (k : Nat) (c : Cel) : (tab n f).set k c = tab n (fun i => if i = k then c else f i) := by
  apply List.ext_getElem?
  intro i
  rw [List.getElem?_set, tab_len]
  by_cases hi : i < n
  · rw [tab_get _ _ _ hi, tab_get _ _ _ hi]
    by_cases hk : k = i
    · subst hk; simp [hi]
    · simp [hk, Ne.symm hk]
  · rw [tab_no _ _ _ (by omega), tab_no _ _ _ (by omega)]
    by_cases hk : k = i
    · subst hk; simp [hi]
    · simp [hk]
theorem set_tab (l : List Cel) (k : Nat) (c : Cel) : l.set k c = tab l.length (fun i => if i = k then c else cAt l i) := by
  conv => lhs; rw [← tab_self l]
  exact tab_set _ _ _ _

/-- Is a half alone? -/
def aloneC (l : List Cel) (i : Nat) : Bool :=
  if wAt l i = 2 then decide (wAt l (i + 1) ≠ 0) else if wAt l i = 0 then decide (i = 0 ∨ wAt l (i - 1) ≠ 2) else false
def mendAt (l : List Cel) (i : Nat) : Cel := if aloneC l i = true then blankC (cAt l i).p else cAt l i
def mendC (l : List Cel) : List Cel := tab l.length (mendAt l)
theorem mend_len (l : List Cel) : (mendC l).length = l.length := tab_len _ _

def lenN (n : Int) : Nat := (min (max n 0) 512).toNat
theorem lenN_le (n : Int) : lenN n ≤ 512 := by unfold lenN; omega
def newC (n : Int) : List Cel := tab (lenN n) (fun _ => blankC zeroP)
def putTab (l : List Cel) (k : Nat) (c : Cel) : List Cel := tab l.length (fun i => if i = k then c else if i = k + 1 ∧ c.w = 2 then restC c else cAt l i)
def putOk (l : List Cel) (at_ : Int) (c : Cel) : Bool := decide (rightC c = true ∧ c.w ≠ 0 ∧ 0 ≤ at_ ∧ at_ + (c.w : Int) ≤ (l.length : Int))
def putC (l : List Cel) (at_ : Int) (c : Cel) : List Cel := if putOk l at_ c = true then mendC (putTab l at_.toNat c) else l
def eraseTab (l : List Cel) (from_ to : Int) (p : Pn) : List Cel := tab l.length (fun i => if from_ ≤ (i : Int) ∧ (i : Int) < to then blankC p else cAt l i)
def eraseC (l : List Cel) (from_ to : Int) (p : Pn) : List Cel := mendC (eraseTab l from_ to p)
def fitTab (l : List Cel) (n : Int) : List Cel := tab (lenN n) (fun i => if i < l.length then cAt l i else blankC zeroP)
def fitC (l : List Cel) (n : Int) : List Cel := mendC (fitTab l n)
/-- The place that a mark goes to. -/
def mkAt (l : List Cel) (k : Nat) : Nat := if wAt l k = 0 ∧ 0 < k ∧ wAt l (k - 1) = 2 then k - 1 else k
def lmarkC (l : List Cel) (at_ r : Int) : List Cel × Bool :=
  if 0 ≤ at_ ∧ at_ < (l.length : Int) then (l.set (mkAt l at_.toNat) (markC (cAt l (mkAt l at_.toNat)) r).1, (markC (cAt l (mkAt l at_.toNat)) r).2) else (l, false)
/-- Up to a place: right, no half alone, both halves of one pen. -/
def okAt (l : List Cel) (i : Nat) : Bool := rightC (cAt l i) && (!(aloneC l i) && (!(decide (wAt l i = 0)) || decide ((cAt l i).p = (cAt l (i - 1)).p)))
def okP (l : List Cel) (i : Nat) : Bool := rightC (cAt l i) && (!(aloneC l i) && (!(decide (wAt l i = 2)) || decide (cAt l (i + 1) = restC (cAt l i))))
def rightL (l : List Cel) : Bool := decide (∀ i, i < l.length → okAt l i = true)
def usedTo (l : List Cel) : Nat → Nat
  | 0 => 0
  | k + 1 => if cAt l k = blankC zeroP then usedTo l k else k + 1
def usedC (l : List Cel) : Nat := usedTo l l.length

/-! ### mending in place -/
def mixC (l : List Cel) (k : Nat) : List Cel := tab l.length (fun i => if i < k then mendAt l i else cAt l i)
theorem mix_len (l : List Cel) (k : Nat) : (mixC l k).length = l.length := tab_len _ _
theorem mix_0 (l : List Cel) : mixC l 0 = l := by
  unfold mixC
  conv => rhs; rw [← tab_self l]
  exact tab_eq fun i _ => by simp
theorem mix_all (l : List Cel) (k : Nat) (h : l.length ≤ k) : mixC l k = mendC l := tab_eq fun i hi => by rw [if_pos (by omega)]
theorem mix_at (l : List Cel) (k i : Nat) (hi : i < l.length) : cAt (mixC l k) i = if i < k then mendAt l i else cAt l i := tab_cAt _ _ _ hi
theorem mix_self (l : List Cel) (k : Nat) (h : k < l.length) : cAt (mixC l k) k = cAt l k := by rw [mix_at l k k h]; simp
theorem mendAt_no (l : List Cel) (k : Nat) (h : aloneC l k = false) : mendAt l k = cAt l k := by unfold mendAt; simp [h]
theorem mendAt_yes (l : List Cel) (k : Nat) (h : aloneC l k = true) : mendAt l k = blankC (cAt l k).p := by unfold mendAt; simp [h]
theorem mix_next (l : List Cel) (k : Nat) : mixC l (k + 1) = (mixC l k).set k (mendAt l k) := by
  unfold mixC
  rw [tab_set]
  refine tab_eq fun i hi => ?_
  by_cases h : i = k
  · subst h; simp
  · by_cases h2 : i < k
    · simp [h, h2, show i < k + 1 by omega]
    · simp [h, h2, show ¬ i < k + 1 by omega]
theorem mix_stay (l : List Cel) (k : Nat) (h : k < l.length) (ha : aloneC l k = false) : mixC l (k + 1) = mixC l k := by
  rw [mix_next, mendAt_no l k ha]
  unfold mixC
  rw [tab_set]
  refine tab_eq fun i hi => ?_
  by_cases h : i = k
  · subst h; simp
  · simp [h]
theorem mendAt_w (l : List Cel) (i : Nat) (hi : i < l.length) : (mendAt l i).w = 2 ↔ (wAt l i = 2 ∧ aloneC l i = false) := by
  unfold mendAt
  rw [wAt_in l i hi]
  cases h : aloneC l i <;> simp [blankC]
theorem mix_alone (l : List Cel) (k : Nat) (hk : k < l.length) : aloneC (mixC l k) k = aloneC l k := by
  have e0 : wAt (mixC l k) k = wAt l k := by
    rw [wAt_in _ _ (by rw [mix_len]; exact hk), wAt_in _ _ hk, mix_self l k hk]
  have e1 : wAt (mixC l k) (k + 1) = wAt l (k + 1) := by
    by_cases h : k + 1 < l.length
    · rw [wAt_in _ _ (by rw [mix_len]; exact h), wAt_in _ _ h, mix_at l k _ h]; simp [show ¬ k + 1 < k by omega]
    · rw [wAt_out _ _ (by rw [mix_len]; omega), wAt_out _ _ (by omega)]
  unfold aloneC
  rw [e0, e1]
  by_cases h2 : wAt l k = 2
  · simp [h2]
  · rw [if_neg h2, if_neg h2]
    by_cases h0 : wAt l k = 0
    · rw [if_pos h0, if_pos h0]
      by_cases hz : k = 0
      · simp [hz]
      · have hp : k - 1 < l.length := by omega
        have e2 : wAt (mixC l k) (k - 1) = 2 ↔ wAt l (k - 1) = 2 := by
          rw [wAt_in _ _ (by rw [mix_len]; exact hp), mix_at l k _ hp, if_pos (by omega), mendAt_w l _ hp]
          constructor
          · exact fun h => h.1
          · intro h
            refine ⟨h, ?_⟩
            unfold aloneC
            rw [if_pos h, show k - 1 + 1 = k by omega, h0]
            simp
        simp [hz, e2]
    · rw [if_neg h0, if_neg h0]
theorem mend_cAt (l : List Cel) (i : Nat) (hi : i < l.length) : cAt (mendC l) i = mendAt l i := tab_cAt _ _ _ hi

/-! ### which lines are right: two ways -/
theorem okAt_iff (l : List Cel) (i : Nat) : okAt l i = true ↔ rightC (cAt l i) = true ∧ aloneC l i = false ∧ (wAt l i = 0 → (cAt l i).p = (cAt l (i - 1)).p) := by
  unfold okAt
  simp only [Bool.and_eq_true, Bool.or_eq_true, Bool.not_eq_true', decide_eq_true_iff, decide_eq_false_iff_not]
  constructor
  · rintro ⟨h1, h2, h3⟩; exact ⟨h1, h2, fun h => by rcases h3 with q | q; exact absurd h q; exact q⟩
  · rintro ⟨h1, h2, h3⟩; exact ⟨h1, h2, by by_cases h : wAt l i = 0; exact .inr (h3 h); exact .inl h⟩
theorem okP_iff (l : List Cel) (i : Nat) : okP l i = true ↔ rightC (cAt l i) = true ∧ aloneC l i = false ∧ (wAt l i = 2 → cAt l (i + 1) = restC (cAt l i)) := by
  unfold okP
  simp only [Bool.and_eq_true, Bool.or_eq_true, Bool.not_eq_true', decide_eq_true_iff, decide_eq_false_iff_not]
  constructor
  · rintro ⟨h1, h2, h3⟩; exact ⟨h1, h2, fun h => by rcases h3 with q | q; exact absurd h q; exact q⟩
  · rintro ⟨h1, h2, h3⟩; exact ⟨h1, h2, by by_cases h : wAt l i = 2; exact .inr (h3 h); exact .inl h⟩
theorem alone_2 {l : List Cel} {i : Nat} (h : wAt l i = 2) (ha : aloneC l i = false) : wAt l (i + 1) = 0 := by
  unfold aloneC at ha; rw [if_pos h] at ha; simpa using ha
theorem alone_0 {l : List Cel} {i : Nat} (h : wAt l i = 0) (ha : aloneC l i = false) : i ≠ 0 ∧ wAt l (i - 1) = 2 := by
  unfold aloneC at ha; rw [if_neg (by omega), if_pos h] at ha; simpa using ha
theorem wAt_lt {l : List Cel} {i : Nat} (h : wAt l i ≠ 9) : i < l.length := by
  by_cases q : i < l.length
  · exact q
  · exact absurd (wAt_out l i (by omega)) h
theorem right_w0 {c : Cel} (h : rightC c = true) (h0 : c.w = 0) : c.r = 0 ∧ c.m = 0 ∧ c.n = 0 := by
  unfold rightC at h; simp only [Bool.and_eq_true, if_pos h0, decide_eq_true_iff] at h; exact h.2
theorem right_w {c : Cel} (h : rightC c = true) : c.w = 0 ∨ c.w = 1 ∨ c.w = 2 := by
  unfold rightC at h
  simp only [Bool.and_eq_true] at h
  by_cases h0 : c.w = 0
  · exact .inl h0
  · rw [if_neg h0] at h
    by_cases hb : bearsC c = true
    · unfold bearsC at hb; simp at hb; omega
    · rw [if_neg hb] at h; cases h.2
theorem rightL_P (l : List Cel) : rightL l = decide (∀ i, i < l.length → okP l i = true) := by
  unfold rightL
  rw [Bool.eq_iff_iff, decide_eq_true_iff, decide_eq_true_iff]
  constructor
  · intro H i hi
    obtain ⟨h1, h2, h3⟩ := (okAt_iff l i).1 (H i hi)
    refine (okP_iff l i).2 ⟨h1, h2, fun h => ?_⟩
    have h4 := alone_2 h h2
    have hi1 : i + 1 < l.length := wAt_lt (by omega)
    obtain ⟨k1, k2, k3⟩ := (okAt_iff l (i + 1)).1 (H _ hi1)
    have k4 := k3 h4
    rw [wAt_in l _ hi1] at h4
    obtain ⟨r1, r2, r3⟩ := right_w0 k1 h4
    rw [show i + 1 - 1 = i by omega] at k4
    generalize cAt l (i + 1) = c at *
    obtain ⟨r, m, n, w, p⟩ := c
    simp only at r1 r2 r3 h4 k4
    subst r1 r2 r3 h4 k4
    rfl
  · intro H i hi
    obtain ⟨h1, h2, h3⟩ := (okP_iff l i).1 (H i hi)
    refine (okAt_iff l i).2 ⟨h1, h2, fun h => ?_⟩
    obtain ⟨h4, h5⟩ := alone_0 h h2
    have hi1 : i - 1 < l.length := by omega
    obtain ⟨k1, k2, k3⟩ := (okP_iff l (i - 1)).1 (H _ hi1)
    have k4 := k3 h5
    rw [show i - 1 + 1 = i by omega] at k4
    rw [k4]; rfl
theorem rightL_iff (l : List Cel) : rightL l = true ↔ ∀ i, i < l.length → okAt l i = true := by unfold rightL; rw [decide_eq_true_iff]
theorem rightL_no (l : List Cel) (i : Nat) (hi : i < l.length) (h : okAt l i = false) : rightL l = false := by
  cases q : rightL l
  · rfl
  · rw [(rightL_iff l).1 q i hi] at h; cases h
theorem rightL_noP (l : List Cel) (i : Nat) (hi : i < l.length) (h : okP l i = false) : rightL l = false := by
  cases q : rightL l
  · rfl
  · rw [rightL_P, decide_eq_true_iff] at q; rw [q i hi] at h; cases h
theorem rightL_yesP (l : List Cel) (h : ∀ i, i < l.length → okP l i = true) : rightL l = true := by rw [rightL_P, decide_eq_true_iff]; exact h
theorem usedTo_le (l : List Cel) (k : Nat) : usedTo l k ≤ k := by
  induction k with
  | zero => exact Nat.le_refl _
  | succ k ih => unfold usedTo; split <;> omega
end Go.Proofs.YtiifeniijcnahaaGreatDoor

namespace Go.Proofs.YtiifeniijcnahaaGreatDoor
set_option maxRecDepth 100000
open Go.ChangeShapes Go.WideShapes Go.ChangeAt Go.RowKit
set_option linter.unusedVariables false

/-- A line's values, one behind the other. -/
def flatC (k : IntKind) (cs : List Cel) : List Value := cs.flatMap (cellL k)
theorem flatC_len (k : IntKind) (cs : List Cel) : (flatC k cs).length = cs.length * 7 := by
  induction cs with
  | nil => rfl
  | cons c cs ih => unfold flatC at ih ⊢; rw [List.flatMap_cons, List.length_append, ih, List.length_cons]; show 7 + _ = _; omega
theorem flatC_append (k : IntKind) (a b : List Cel) : flatC k (a ++ b) = flatC k a ++ flatC k b := by unfold flatC; simp
theorem flatC_get (k : IntKind) (cs : List Cel) : ∀ (i d : Nat), d < 7 → (flatC k cs)[i * 7 + d]? = (cs[i]?).bind (fun c => (cellL k c)[d]?) := by
  induction cs with
  | nil => intro i d _; simp [flatC]
  | cons c cs ih =>
    intro i d hd
    have hl : (cellL k c).length = 7 := rfl
    unfold flatC at ih ⊢
    rw [List.flatMap_cons]
    cases i with
    | zero => rw [List.getElem?_append_left (by omega)]; simp
    | succ i =>
      rw [List.getElem?_append_right (by omega), hl, show (i + 1) * 7 + d - 7 = i * 7 + d by omega, ih i d hd]
      simp
theorem flatC_one (k : IntKind) (cs : List Cel) : ∀ u ∈ flatC k cs, u.oneCell' = true := by
  intro u hu
  unfold flatC at hu
  obtain ⟨c, _, hc⟩ := List.mem_flatMap.1 hu
  simp only [cellL, List.mem_cons, List.not_mem_nil, or_false] at hc
  rcases hc with rfl | rfl | rfl | rfl | rfl | rfl | rfl <;> rfl
theorem flatC_take (k : IntKind) (cs : List Cel) (n : Nat) : flatC k (cs.take n) = (flatC k cs).take (n * 7) := by
  induction cs generalizing n with
  | nil => simp [flatC]
  | cons c cs ih =>
    cases n with
    | zero => simp [flatC]
    | succ n =>
      have hl : (cellL k c).length = 7 := rfl
      have e := ih n
      unfold flatC at e ⊢
      rw [List.take_succ_cons, List.flatMap_cons, List.flatMap_cons, e, List.take_append, hl, show (n + 1) * 7 - 7 = n * 7 by omega, List.take_of_length_le (by omega : (cellL k c).length ≤ (n + 1) * 7)]
theorem flatC_drop (k : IntKind) (cs : List Cel) (n : Nat) : flatC k (cs.drop n) = (flatC k cs).drop (n * 7) := by
  induction cs generalizing n with
  | nil => simp [flatC]
  | cons c cs ih =>
    cases n with
    | zero => simp [flatC]
    | succ n =>
      have hl : (cellL k c).length = 7 := rfl
      have e := ih n
      unfold flatC at e ⊢
      rw [List.drop_succ_cons, List.flatMap_cons, e, List.drop_append, hl, show (n + 1) * 7 - 7 = n * 7 by omega, List.drop_eq_nil_of_le (by omega : (cellL k c).length ≤ (n + 1) * 7)]
      rfl

/-- A slice of cells: it holds cs, wherever it lies; of an empty one nothing is asked. -/
def Cels (k : IntKind) (w : World) (a : Option Addr) (cs : List Cel) : Prop :=
  cs = [] ∨ ∃ b off, a = some ⟨b, off, none⟩ ∧ ∀ j v, (flatC k cs)[j]? = some v → w.cell? ⟨b, off + j, none⟩ = some v

section
variable {k : IntKind} {w w' : World} {a : Option Addr} {cs : List Cel}
theorem Cels.nil : Cels k w a [] := .inl rfl
theorem Cels.at (h : Cels k w a cs) {i : Nat} (hi : i < cs.length) :
    ∃ b off, a = some ⟨b, off, none⟩ ∧ b < w.heap.size ∧ ∀ d v, (cellL k (cAt cs i))[d]? = some v → w.cell? ⟨b, off + i * 7 + d, none⟩ = some v := by
  rcases h with h | ⟨b, off, ha, hc⟩
  · subst h; simp at hi
  · have key : ∀ d v, (cellL k (cAt cs i))[d]? = some v → w.cell? ⟨b, off + i * 7 + d, none⟩ = some v := by
      intro d v hv
      have hd : d < 7 := (List.getElem?_eq_some_iff.1 hv).1
      rw [Nat.add_assoc]
      refine hc _ v ?_
      rw [flatC_get k cs i d hd, get_cAt cs i hi]
      exact hv
    exact ⟨b, off, ha, block_lt_of_cell (key 0 _ rfl), key⟩
theorem Cels.keep (h : Cels k w a cs) (hk : ∀ p : Addr, p.block < w.heap.size → w'.cell? p = w.cell? p) : Cels k w' a cs := by
  rcases h with h | ⟨b, off, ha, hc⟩
  · exact .inl h
  · exact .inr ⟨b, off, ha, fun j v hj => (hk _ (block_lt_of_cell (hc j v hj))).trans (hc j v hj)⟩
theorem Cels.below (h : Cels k w a cs) (hb : Below w.heap.size w w') : Cels k w' a cs := h.keep fun _ hp => hb.cell hp
theorem Cels.alloc (h : Cels k w a cs) (o : Obj) : Cels k (w.alloc o) a cs := h.keep fun p hp => World.cell?_alloc_lt w o p hp
theorem Cels.drewN (h : Cels k w a cs) (n : Nat) : Cels k (w.drewN n) a cs := h
theorem Cels.drew (h : Cels k w a cs) : Cels k w.drew a cs := h
theorem Cels.take (h : Cels k w a cs) (n : Nat) : Cels k w a (cs.take n) := by
  rcases h with h | ⟨b, off, ha, hc⟩
  · exact .inl (by simp [h])
  · refine .inr ⟨b, off, ha, fun j v hj => ?_⟩
    rw [flatC_take, List.getElem?_take] at hj
    split at hj
    · exact hc j v hj
    · cases hj
theorem Whole.cels {g : Nat} {t : TypeId} (h : Whole w g t (flatC k cs)) : Cels k w (some ⟨g, 0, none⟩) cs := by
  refine .inr ⟨g, 0, rfl, fun j v hj => ?_⟩
  rw [Nat.zero_add, h.cell j, hj]
end
end Go.Proofs.YtiifeniijcnahaaGreatDoor

namespace Go.Proofs.YtiifeniijcnahaaGreatDoor
set_option maxRecDepth 100000
open Go.ChangeShapes Go.WideShapes Go.ChangeAt Go.RowKit
set_option linter.unusedVariables false

theorem alone_a {cs : List Cel} {k : Nat} (h : wAt cs k = 2) (h1 : wAt cs (k + 1) ≠ 0) : aloneC cs k = true := by unfold aloneC; rw [if_pos h]; simpa using h1
theorem alone_b {cs : List Cel} {k : Nat} (h : wAt cs k = 2) (h1 : wAt cs (k + 1) = 0) : aloneC cs k = false := by unfold aloneC; rw [if_pos h]; simpa using h1
theorem alone_d {cs : List Cel} {k : Nat} (h : wAt cs k = 0) (h1 : k = 0 ∨ wAt cs (k - 1) ≠ 2) : aloneC cs k = true := by unfold aloneC; rw [if_neg (by omega), if_pos h]; simpa using h1
theorem alone_e {cs : List Cel} {k : Nat} (h : wAt cs k = 0) (h0 : k ≠ 0) (h1 : wAt cs (k - 1) = 2) : aloneC cs k = false := by unfold aloneC; rw [if_neg (by omega), if_pos h]; simp [h0, h1]
theorem alone_g {cs : List Cel} {k : Nat} (h : wAt cs k ≠ 2) (h1 : wAt cs k ≠ 0) : aloneC cs k = false := by unfold aloneC; rw [if_neg h, if_neg h1]
/-- The width at a place, as it lies. -/
theorem Cels.wide {q : IntKind} {w : World} {b off : Nat} {cs : List Cel} (h : Cels q w (some ⟨b, off, none⟩) cs) (k : Nat) (hk : k < cs.length) : w.cell? ⟨b, off + k * 7 + 3, none⟩ = some (.int .u8 (wAt cs k : Int)) := by
  obtain ⟨b', off', e, _, hc⟩ := h.at hk
  cases e
  rw [wAt_in cs k hk]
  exact hc 3 _ rfl
set_option maxHeartbeats 1000000 in
theorem alone_any (A : Option Addr) (n c k : Nat) (cs : List Cel) (w : World) (h : Cels .i32 w A cs) (hn : cs.length = n) (hk : k < n) (hl : n ≤ 1000000) : Calls Tryz.prog 89 #[.slice A n c, .int .i64 (k : Int)] w fun e w' => e = .returned (.bool (aloneC cs k)) ∧ w = w' := by
  obtain ⟨b, off, rfl, hb, -⟩ := h.at (i := k) (by omega)
  have c3 := h.wide k (by omega)
  by_cases h2 : wAt cs k = 2
  · have e2 : ((wAt cs k : Int) == 2) = true := by simp; omega
    by_cases hk1 : k + 1 = n
    · have H := hide (alone_a h2 (by rw [wAt_out cs (k + 1) (by omega)]; omega))
      have e3 : ((k : Int) == (n : Int) - 1) = true := by simp; omega
      have e4 : ((k : Int) + 1 == (n : Int)) = true := by simp; omega
      clear h2 hk1 h
      go_enter Tryz.func89, Tryz.ntmps89
      go_wp2
      go_ret
      exact ⟨ret_bool H.out.symm, rfl⟩
    · have c4 := h.wide (k + 1) (by omega)
      have e3 : ((k : Int) == (n : Int) - 1) = false := by simp; omega
      have e4 : ((k : Int) + 1 == (n : Int)) = false := by simp; omega
      by_cases h0 : wAt cs (k + 1) = 0
      · have H := hide (alone_b h2 h0)
        have e5 : ((wAt cs (k + 1) : Int) != 0) = false := by simp; omega
        clear h2 h0 h
        go_enter Tryz.func89, Tryz.ntmps89
        go_wp2
        go_ret
        exact ⟨ret_bool H.out.symm, rfl⟩
      · have H := hide (alone_a h2 h0)
        have e5 : ((wAt cs (k + 1) : Int) != 0) = true := by simp; omega
        clear h2 h0 h
        go_enter Tryz.func89, Tryz.ntmps89
        go_wp2
        go_ret
        exact ⟨ret_bool H.out.symm, rfl⟩
  · have e2 : ((wAt cs k : Int) == 2) = false := by simp; omega
    by_cases h0 : wAt cs k = 0
    · have e1 : ((wAt cs k : Int) == 0) = true := by simp; omega
      by_cases hk0 : k = 0
      · have H := hide (alone_d h0 (.inl hk0))
        have e3 : ((k : Int) == 0) = true := by simp; omega
        clear h2 h0 h hk0
        go_enter Tryz.func89, Tryz.ntmps89
        go_wp2
        go_ret
        exact ⟨ret_bool H.out.symm, rfl⟩
      · have c4 := h.wide (k - 1) (by omega)
        have e3 : ((k : Int) == 0) = false := by simp; omega
        by_cases hp : wAt cs (k - 1) = 2
        · have H := hide (alone_e h0 hk0 hp)
          have e5 : ((wAt cs (k - 1) : Int) != 2) = false := by simp; omega
          clear h2 h0 h hp
          go_enter Tryz.func89, Tryz.ntmps89
          go_wp2
          go_ret
          exact ⟨ret_bool H.out.symm, rfl⟩
        · have H := hide (alone_d h0 (.inr hp))
          have e5 : ((wAt cs (k - 1) : Int) != 2) = true := by simp; omega
          clear h2 h0 h hp
          go_enter Tryz.func89, Tryz.ntmps89
          go_wp2
          go_ret
          exact ⟨ret_bool H.out.symm, rfl⟩
    · have H := hide (alone_g h2 h0)
      have e1 : ((wAt cs k : Int) == 0) = false := by simp; omega
      clear h2 h0 h
      go_enter Tryz.func89, Tryz.ntmps89
      go_wp2
      go_ret
      exact ⟨ret_bool H.out.symm, rfl⟩
set_option maxHeartbeats 1000000 in
theorem ralone_any (A : Option Addr) (n c k : Nat) (cs : List Cel) (w : World) (h : Cels .i64 w A cs) (hn : cs.length = n) (hk : k < n) (hl : n ≤ 1000000) : Calls Tryz.prog 92 #[.slice A n c, .int .i64 (k : Int)] w fun e w' => e = .returned (.bool (aloneC cs k)) ∧ w = w' := by
  obtain ⟨b, off, rfl, hb, -⟩ := h.at (i := k) (by omega)
  have c3 := h.wide k (by omega)
  by_cases h2 : wAt cs k = 2
  · have e2 : ((wAt cs k : Int) == 2) = true := by simp; omega
    by_cases hk1 : k + 1 = n
    · have H := hide (alone_a h2 (by rw [wAt_out cs (k + 1) (by omega)]; omega))
      have e3 : ((k : Int) == (n : Int) - 1) = true := by simp; omega
      have e4 : ((k : Int) + 1 == (n : Int)) = true := by simp; omega
      clear h2 hk1 h
      go_enter Tryz.func92, Tryz.ntmps92
      go_wp2
      go_ret
      exact ⟨ret_bool H.out.symm, rfl⟩
    · have c4 := h.wide (k + 1) (by omega)
      have e3 : ((k : Int) == (n : Int) - 1) = false := by simp; omega
      have e4 : ((k : Int) + 1 == (n : Int)) = false := by simp; omega
      by_cases h0 : wAt cs (k + 1) = 0
      · have H := hide (alone_b h2 h0)
        have e5 : ((wAt cs (k + 1) : Int) != 0) = false := by simp; omega
        clear h2 h0 h
        go_enter Tryz.func92, Tryz.ntmps92
        go_wp2
        go_ret
        exact ⟨ret_bool H.out.symm, rfl⟩
      · have H := hide (alone_a h2 h0)
        have e5 : ((wAt cs (k + 1) : Int) != 0) = true := by simp; omega
        clear h2 h0 h
        go_enter Tryz.func92, Tryz.ntmps92
        go_wp2
        go_ret
        exact ⟨ret_bool H.out.symm, rfl⟩
  · have e2 : ((wAt cs k : Int) == 2) = false := by simp; omega
    by_cases h0 : wAt cs k = 0
    · have e1 : ((wAt cs k : Int) == 0) = true := by simp; omega
      by_cases hk0 : k = 0
      · have H := hide (alone_d h0 (.inl hk0))
        have e3 : ((k : Int) == 0) = true := by simp; omega
        clear h2 h0 h hk0
        go_enter Tryz.func92, Tryz.ntmps92
        go_wp2
        go_ret
        exact ⟨ret_bool H.out.symm, rfl⟩
      · have c4 := h.wide (k - 1) (by omega)
        have e3 : ((k : Int) == 0) = false := by simp; omega
        by_cases hp : wAt cs (k - 1) = 2
        · have H := hide (alone_e h0 hk0 hp)
          have e5 : ((wAt cs (k - 1) : Int) != 2) = false := by simp; omega
          clear h2 h0 h hp
          go_enter Tryz.func92, Tryz.ntmps92
          go_wp2
          go_ret
          exact ⟨ret_bool H.out.symm, rfl⟩
        · have H := hide (alone_d h0 (.inr hp))
          have e5 : ((wAt cs (k - 1) : Int) != 2) = true := by simp; omega
          clear h2 h0 h hp
          go_enter Tryz.func92, Tryz.ntmps92
          go_wp2
          go_ret
          exact ⟨ret_bool H.out.symm, rfl⟩
    · have H := hide (alone_g h2 h0)
      have e1 : ((wAt cs k : Int) == 0) = false := by simp; omega
      clear h2 h0 h
      go_enter Tryz.func92, Tryz.ntmps92
      go_wp2
      go_ret
      exact ⟨ret_bool H.out.symm, rfl⟩
end Go.Proofs.YtiifeniijcnahaaGreatDoor

namespace Go.Proofs.YtiifeniijcnahaaGreatDoor
set_option maxRecDepth 100000
open Go.ChangeShapes Go.WideShapes Go.ChangeAt Go.RowKit
set_option linter.unusedVariables false

/-- What the loaded program's table says of a slice type S over cells of type e. -/
structure ElemC (P : Program) (S e : TypeId) (k : IntKind) (bytes : Nat) : Prop where
  under : P.underlying S = some (.slice e)
  info : (P.info? e).map (fun i => (i.zero, i.size, i.bytes)) = some (some (.agg (cellL k zeroC).toArray), 7, bytes)
theorem elemL : ElemC Tryz.prog 41 40 .i32 16 := ⟨Tryz.underlying41, by kernel_rfl⟩
theorem elemLC : ElemC Tryz.prog 73 52 .i64 32 := ⟨Tryz.underlying73, by kernel_rfl⟩

/-! ### laid over -/
/-- ds with xs laid over it from a place on. -/
def layC (ds : List Cel) (p : Nat) (xs : List Cel) : List Cel := ds.take p ++ (xs ++ ds.drop (p + xs.length))
theorem lay_len (ds : List Cel) (p : Nat) (xs : List Cel) (h : p + xs.length ≤ ds.length) : (layC ds p xs).length = ds.length := by unfold layC; simp; omega
theorem lay_tab (ds : List Cel) (p : Nat) (xs : List Cel) (h : p + xs.length ≤ ds.length) : layC ds p xs = tab ds.length (fun i => if p ≤ i ∧ i < p + xs.length then cAt xs (i - p) else cAt ds i) := by
  refine tab_is (lay_len ds p xs h) fun i hi => ?_
  unfold layC cAt
  rw [List.getD_eq_getElem?_getD]
  by_cases h1 : i < p
  · rw [if_neg (by omega), List.getElem?_append_left (by simp; omega), List.getElem?_take, if_pos h1, List.getD_eq_getElem?_getD]
  · have hl : (ds.take p).length = p := by simp; omega
    rw [List.getElem?_append_right (by omega), hl]
    by_cases h2 : i < p + xs.length
    · rw [if_pos (by omega), List.getElem?_append_left (by omega), List.getD_eq_getElem?_getD]
    · rw [if_neg (by omega), List.getElem?_append_right (by omega), List.getElem?_drop, List.getD_eq_getElem?_getD, show p + xs.length + (i - p - xs.length) = i by omega]
theorem flat_lay (k : IntKind) (ds : List Cel) (p : Nat) (xs : List Cel) : flatC k (layC ds p xs) = (flatC k ds).take (p * 7) ++ (flatC k xs ++ (flatC k ds).drop (p * 7 + (flatC k xs).length)) := by
  unfold layC
  rw [flatC_append, flatC_append, flatC_take, flatC_drop, flatC_len k xs, Nat.add_mul]
theorem set_lay (ds : List Cel) (p : Nat) (c : Cel) (h : p < ds.length) : ds.set p c = layC ds p [c] := by
  unfold layC
  rw [List.set_eq_take_append_cons_drop, if_pos h]
  rfl

/-- An operation whose value and world are known. -/
theorem wpList_run {P : Program} {ops : Array Oper} {rest : List Oper} {o : Oper} {a : Act} {w w' : World} {Q : Exit → Act → World → Prop} {v : Value} (hw : Region.wanted o (yielded ops a.tmps) = true)
    (hrun : (execOp a.eval o).run P w = .ok (.value v) w') (h : wpList P ops Q rest (a.put o.dst v) w') : wpList P ops Q (o :: rest) a w :=
  wpList_want hw fun K hK => by
    unfold Oper.wp
    rw [hrun]
    exact hK _ _ h

theorem stopw {p : Prop} (h : Hid p) : p := h
/-! ### make -/
theorem zeros_flat (k : IntKind) (n : Nat) : (madeCells (cellL k zeroC).toArray (n * 7)).toList = flatC k (List.replicate n zeroC) := by
  apply List.ext_getElem?
  intro j
  by_cases hj : j < n * 7
  · have e : j = j / 7 * 7 + j % 7 := by omega
    have hq : j / 7 < n := by omega
    have hd : j % 7 < 7 := by omega
    have h1 : (flatC k (List.replicate n zeroC))[j]? = (cellL k zeroC)[j % 7]? := by
      conv => lhs; rw [e]
      rw [flatC_get k _ _ _ hd, List.getElem?_replicate, if_pos hq]
      rfl
    rw [h1]
    simp only [madeCells, Array.toList_map, List.getElem?_map, Array.toList_range, List.getElem?_range hj, Option.map_some]
    have hs : (cellL k zeroC).toArray.size = 7 := rfl
    rw [hs]
    have : j % 7 < (cellL k zeroC).toArray.size := hd
    rw [getElem!_pos (cellL k zeroC).toArray (j % 7) this]
    have h2 : j % 7 < (cellL k zeroC).length := hd
    rw [List.getElem?_eq_getElem h2]
    rfl
  · rw [List.getElem?_eq_none (by rw [Array.length_toList, size_madeCells]; omega), List.getElem?_eq_none (by rw [flatC_len]; simp; omega)]
theorem whole_owned {w : World} {B : Nat} {e : TypeId} {g n : Nat} {xs : List Value} (h : w.ownsRow B e 7 (.slice (some ⟨g, 0, none⟩) n n) n xs) : Whole w g e xs := by
  rcases h.2 with ⟨h', _⟩ | ⟨g', cap', cur, h', hb, hg, hnc, hcm, hcs, htake⟩
  · cases h'
  · simp only [Value.slice.injEq, Option.some.injEq, Addr.mk.injEq, and_true, true_and] at h'
    obtain ⟨rfl, rfl⟩ := h'
    rw [List.take_of_length_le (Nat.le_of_eq (by rw [Array.length_toList, hcs]))] at htake
    subst htake
    exact hg
/-- 'make([]Cell, n)'. -/
theorem wpList_makeL {P : Program} {S e : TypeId} {k : IntKind} {bytes : Nat} (E : ElemC P S e k bytes) {ops : Array Oper} {rest : List Oper} {o : Oper} {a : Act} {w : World} {Q : Exit → Act → World → Prop} (hg : o.guard = none) (x y : Operand) (hop : o.op = .makeSlice S x y)
    (n : Nat) (hx : a.eval x = .int .i64 (n : Int)) (hy : a.eval y = .int .i64 (n : Int)) (hn : n ≤ 1000000) (hby : bytes ≤ 1000)
    (h : ∀ w', Whole w' w.heap.size e (flatC k (List.replicate n zeroC)) → Below w.heap.size w w' → wpList P ops Q rest (a.put o.dst (.slice (some ⟨w.heap.size, 0, none⟩) n n)) w') : wpList P ops Q (o :: rest) a w := by
  obtain ⟨i0, hi, hz0, hz1, hz2⟩ := info_parts E.info
  have hb : bytes * n ≤ 1000 * 1000000 := Nat.mul_le_mul hby hn
  refine wpList_make_full w hg x y S hop w.heap.size e i0 _ 7 E.under hi hz0 hz1 .i64 .i64 n n n hx hy rfl rfl (by rw [hz2]; omega) (by unfold maxLen; omega) (Nat.le_refl _) ?_
  intro w' ho hgr
  have hw := whole_owned ho
  rw [show (Value.agg (cellL k zeroC).toArray).cells = (cellL k zeroC).toArray from rfl, zeros_flat] at hw
  exact h w' hw ⟨hgr.os, hgr.tape, hgr.output, hgr.size, fun i hi => hgr.block i hi (by simp)⟩

/-! ### copy -/
theorem run_copy7 {P : Program} {S e : TypeId} {k : IntKind} {bytes : Nat} (E : ElemC P S e k bytes) (w : World) (S' ty : TypeId) (g o dLen dCap : Nat) (ad : Addr) (sLen sCap : Nat) (cur : Array Value) (t : TypeId) (cs : List Value)
    (hg : w.heap[g]? = some (.cells cur t (0, 0))) (hn : cs.length = Nat.min sLen dLen * 7)
    (hsrc : ∀ j v, cs[j]? = some v → w.cell? (ad.add j) = some v) (hfit : o + cs.length ≤ cur.size) (h1 : ∀ v ∈ cs, v.oneCell' = true) :
    (Builtin.copy_ #[S, S'] ty #[.slice (some ⟨g, o, none⟩) dLen dCap, .slice (some ad) sLen sCap]).run P w =
      .ok (goInt (Nat.min sLen dLen)) (w.setRow g (cur.toList.take o ++ cs ++ cur.toList.drop (o + cs.length)).toArray) := by
  have hl := run_loadCells_list (P := P) w ad cs hsrc
  have hst := run_storeCells_at P g o t cs 0 cur w hg (by simpa using hfit) h1
  obtain ⟨i, hq, _, hi, _⟩ := info_parts E.info
  simp [Builtin.copy_, run_underlying E.under, Builtin.lenOf, Builtin.firstCells, sizeOf, typeInfo, hq, hi, ← hn, hl, hst]
theorem run_copy7_none {P : Program} {S e : TypeId} {k : IntKind} {bytes : Nat} (E : ElemC P S e k bytes) (w : World) (S' ty : TypeId) (d a : Option Addr) (dLen dCap sLen sCap : Nat) (hn : Nat.min sLen dLen = 0) :
    (Builtin.copy_ #[S, S'] ty #[.slice d dLen dCap, .slice a sLen sCap]).run P w = .ok (goInt 0) w := by
  obtain ⟨i, hq, _, hi, _⟩ := info_parts E.info
  have hl : ∀ (x : Addr), (loadCells x 0).run P w = .ok #[] w := fun x => by simpa using run_loadCells_list (P := P) w x [] (by simp)
  cases d <;> cases a <;> simp [Builtin.copy_, run_underlying E.under, Builtin.lenOf, Builtin.firstCells, sizeOf, typeInfo, hq, hn, storeCells, hl]
/-- 'copy(row[p:], src)', the row known whole: the run. -/
theorem run_copyL {P : Program} {S e : TypeId} {k : IntKind} {bytes : Nat} (E : ElemC P S e k bytes) (w : World) (ty : TypeId) (g p : Nat) (t : TypeId) (ds xs : List Cel) (A : Option Addr) (dLen dCap sLen sCap : Nat)
    (hw : Whole w g t (flatC k ds)) (hA : Cels k w A xs) (hx : xs.length = sLen) (hfit : p + dLen ≤ ds.length) :
    ∃ w', (Builtin.copy_ #[S, S] ty #[.slice (some ⟨g, p * 7, none⟩) dLen dCap, .slice A sLen sCap]).run P w = .ok (goInt (Nat.min sLen dLen)) w' ∧ Whole w' g t (flatC k (layC ds p (xs.take dLen))) ∧ Only g w w' := by
  subst hx
  rcases hA with rfl | ⟨b, off, rfl, hc⟩
  · exact ⟨w, by simpa using run_copy7_none E w S ty (some ⟨g, p * 7, none⟩) A dLen dCap 0 sCap (by simp), by simpa [layC] using hw, Only.refl⟩
  · have hadd : ∀ j, (⟨b, off, none⟩ : Addr).add j = ⟨b, off + j, none⟩ := fun j => by unfold Addr.add; split <;> simp_all
    have hlen : (flatC k (xs.take dLen)).length = Nat.min xs.length dLen * 7 := by rw [flatC_len, List.length_take]; congr 1; exact Nat.min_comm _ _
    have hrun := run_copy7 E w S ty g (p * 7) dLen dCap ⟨b, off, none⟩ xs.length sCap (flatC k ds).toArray t (flatC k (xs.take dLen)) hw hlen
      (fun j v hj => by rw [hadd]; rw [flatC_take, List.getElem?_take] at hj; split at hj; exact hc j v hj; cases hj)
      (by rw [hlen, List.size_toArray, flatC_len, ← Nat.add_mul]; refine Nat.mul_le_mul_right _ ?_; have : Nat.min xs.length dLen ≤ dLen := Nat.min_le_right _ _; omega) (flatC_one k _)
    refine ⟨_, hrun, ?_, ⟨rfl, rfl, rfl, by simp [World.setRow], fun i _ hne => setRow_other w g i _ (by intro q; exact hne (by simp [q]))⟩⟩
    unfold Whole
    rw [flat_lay]
    simpa using setRow_heap w g _ _ t _ hw

/-! ### append -/
/-- A row of cells of the call's own (blocks from B on), all that lay below B being as it was. -/
structure OwnC (e : TypeId) (k : IntKind) (B : Nat) (w wr : World) (v : Value) (cs : List Cel) : Prop where
  own : wr.ownsRow B e 7 v cs.length (flatC k cs)
  bel : Below B w wr
  le : B ≤ wr.heap.size
section
variable {e : TypeId} {k : IntKind} {B : Nat} {w wr : World} {v : Value} {cs : List Cel}
theorem OwnC.start (hB : B ≤ w.heap.size) : OwnC e k B w w (.slice none 0 0) [] := ⟨World.ownsRow_nil _ _ _ _, Below.refl _ _, hB⟩
theorem OwnC.from0 (hB : B ≤ wr.heap.size) (hb : Below B w wr) : OwnC e k B w wr (.slice none 0 0) [] := ⟨World.ownsRow_nil _ _ _ _, hb, hB⟩
theorem OwnC.empty (w : World) (e : TypeId) (k : IntKind) : OwnC e k w.heap.size w (w.alloc (.cells #[] e)) (.slice (some ⟨w.heap.size, 0, none⟩) 0 0) [] :=
  ⟨⟨by simp [flatC], .inr ⟨w.heap.size, 0, #[], rfl, Nat.le_refl _, heap_alloc_new w _, Nat.le_refl _, Nat.zero_le _, rfl, rfl⟩⟩, (Below.refl _ _).alloc (Nat.le_refl _) _, by simp⟩
theorem OwnC.form (h : OwnC e k B w wr v cs) : ∃ A cap, v = .slice A cs.length cap ∧ Cels k wr A cs ∧ cs.length ≤ cap ∧ (A = none → cap = 0) ∧ cap ≤ maxLen := by
  rcases h.own.2 with ⟨rfl, h0⟩ | ⟨g, cap, cur, rfl, _, _, hc, hm, _, _⟩
  · have : cs = [] := List.eq_nil_of_length_eq_zero h0
    subst this
    exact ⟨none, 0, rfl, .nil, Nat.le_refl _, fun _ => rfl, Nat.zero_le _⟩
  · refine ⟨_, cap, rfl, .inr ⟨g, 0, rfl, fun i v hi => ?_⟩, hc, (fun h => by cases h), hm⟩
    have := h.own.cells (g := g) rfl i v hi
    rwa [show (⟨g, 0, none⟩ : Addr).add i = ⟨g, 0 + i, none⟩ by unfold Addr.add; split <;> simp_all] at this
theorem OwnC.later {w1 : World} (h : OwnC e k B w wr v cs) (hb : Below wr.heap.size wr w1) : OwnC e k B w w1 v cs := by
  refine ⟨⟨h.own.1, ?_⟩, h.bel.trans (hb.mono h.le), Nat.le_trans h.le hb.size⟩
  rcases h.own.2 with h0 | ⟨g, cap, cur, hv, hB, hh, h1⟩
  · exact .inl h0
  · refine .inr ⟨g, cap, cur, hv, hB, ?_, h1⟩
    rw [hb.block g (Array.getElem?_eq_some_iff.1 hh).1, hh]
theorem OwnC.alloc (h : OwnC e k B w wr v cs) (o : Obj) : OwnC e k B w (wr.alloc o) v cs := h.later ((Below.refl _ _).alloc (Nat.le_refl _) _)
theorem OwnC.grown {w1 : World} {v' : Value} {ns : List Cel} (h : OwnC e k B w wr v cs) (h1 : w1.ownsRow B e 7 v' (cs.length + ns.length) (flatC k cs ++ flatC k ns))
    (hg : wr.grownBy w1 v.ownBlock) : OwnC e k B w w1 v' (cs ++ ns) :=
  ⟨by simpa [flatC_append] using h1, h.bel.grown hg h.le (own_ge h.own), Nat.le_trans h.le hg.size⟩
end
theorem cells_new7 (w : World) (l : List Value) (t : TypeId) : ∀ j u, l[j]? = some u → (w.alloc (.cells l.toArray t)).cell? ((⟨w.heap.size, 0, none⟩ : Addr).add j) = some u := by
  intro j u hj
  rw [show (⟨w.heap.size, 0, none⟩ : Addr).add j = ⟨w.heap.size, j, none⟩ by unfold Addr.add; split <;> simp_all, (Whole.new w t l).cell j, hj]
/-- 'append(row, c)', c in a block of its own. -/
theorem wpList_pushC {P : Program} {S e : TypeId} {k : IntKind} {bytes : Nat} (E : ElemC P S e k bytes) {ops : Array Oper} {rest : List Oper} {o : Oper} {a : Act} {Q : Exit → Act → World → Prop} {B : Nat} {w wr : World} {v : Value} {cs : List Cel} (c : Cel)
    (hgd : Region.wanted o (yielded ops a.tmps) = true) (s y : Operand) (ho : o.op = .call { callee := .builtin .append, args := #[s, y], argTypes := #[S, S] })
    (hs : a.eval s = v) (hy : a.eval y = .slice (some ⟨wr.heap.size, 0, none⟩) 1 1) (hown : OwnC e k B w wr v cs) (hlen : cs.length ≤ 1000000) (hby : bytes ≤ 1000)
    (h : ∀ v' w1, OwnC e k B w w1 v' (cs ++ [c]) → wpList P ops Q rest (a.put o.dst v') w1) : wpList P ops Q (o :: rest) a (wr.alloc (.cells #[.int k c.r, .int k c.m, .int k c.n, .int .u8 (c.w : Int), .int .u8 (c.p.f : Int), .int .u8 (c.p.g : Int), .int .u8 (c.p.b : Int)] e)) := by
  obtain ⟨i0, hi, hz0, hz1, hz2⟩ := info_parts E.info
  have hb : (cs.length + 1) * bytes ≤ 1000001 * 1000 := Nat.mul_le_mul (by omega) hby
  refine wpList_want hgd fun K hK => ?_
  refine wp_append_own _ s y S ho B e i0 _ 7 bytes E.under hi hz0 hz1 hz2 rfl (by decide) v cs.length _ hs (hown.alloc _).own ⟨wr.heap.size, 0, none⟩ 1 1 (cellL k c) hy rfl (cells_new7 _ (cellL k c) e) (by have := flatC_one k [c]; simpa [flatC] using this)
    (by unfold maxLen; omega) (by omega) (by have := hown.le; simp; omega) ?_
  intro v' w1 h1 hg _
  exact hK _ _ (h v' w1 ((hown.alloc _).grown (ns := [c]) (by simpa [flatC] using h1) hg))
/-- 'append(row, src...)', src whatever. -/
theorem wpList_catC {P : Program} {S e : TypeId} {k : IntKind} {bytes : Nat} (E : ElemC P S e k bytes) {ops : Array Oper} {rest : List Oper} {o : Oper} {a : Act} {Q : Exit → Act → World → Prop} {B : Nat} {w wr : World} {v : Value} {cs ns : List Cel} {A : Option Addr} {n c : Nat}
    (hgd : Region.wanted o (yielded ops a.tmps) = true) (s y : Operand) (ho : o.op = .call { callee := .builtin .append, args := #[s, y], argTypes := #[S, S] })
    (hs : a.eval s = v) (hy : a.eval y = .slice A n c) (hown : OwnC e k B w wr v cs) (hns : Cels k wr A ns) (hn : ns.length = n) (hc : A = none → c = 0) (hlen : cs.length + n ≤ 1000000) (hby : bytes ≤ 1000)
    (h : ∀ v' w1, OwnC e k B w w1 v' (cs ++ ns) → wpList P ops Q rest (a.put o.dst v') w1) : wpList P ops Q (o :: rest) a wr := by
  subst hn
  obtain ⟨i0, hi, hz0, hz1, hz2⟩ := info_parts E.info
  have hb : (cs.length + ns.length) * bytes ≤ 1000000 * 1000 := Nat.mul_le_mul hlen hby
  refine wpList_want hgd fun K hK => ?_
  cases A with
  | none =>
    have hn : ns = [] := by
      rcases hns with h | ⟨_, _, h, _⟩
      · exact h
      · cases h
    subst hn
    obtain rfl : c = 0 := hc rfl
    have hrun := run_append_owned_none (P := P) (w := wr) B S o.type e i0 7 E.under hi v cs.length _ hown.own
    unfold Oper.wp
    simp [execOp, ho, resolve, invoke, builtin, hs, hy, hrun, Result.andThen]
    exact hK _ _ (h v wr (by simpa using hown))
  | some ad =>
    refine wp_append_own _ s y S ho B e i0 _ 7 bytes E.under hi hz0 hz1 hz2 rfl (by decide) v cs.length _ hs hown.own ad ns.length c (flatC k ns) hy (flatC_len k ns) ?_ (flatC_one k ns)
      (by unfold maxLen; omega) (by omega) hown.le ?_
    · intro j u hu
      rcases hns with rfl | ⟨b, off, e1, hcell⟩
      · simp [flatC] at hu
      · cases e1
        rw [show (⟨b, off, none⟩ : Addr).add j = ⟨b, off + j, none⟩ by unfold Addr.add; split <;> simp_all]
        exact hcell j u hu
    · intro v' w1 h1 hg _
      exact hK _ _ (h v' w1 (hown.grown h1 hg))
end Go.Proofs.YtiifeniijcnahaaGreatDoor

namespace Go.Proofs.YtiifeniijcnahaaGreatDoor
set_option maxRecDepth 100000
open Go.ChangeShapes Go.WideShapes Go.ChangeAt Go.RowKit
set_option linter.unusedVariables false
/-- The call made this line in a block of its own, and left all that was there. -/
def Lined (cs : List Cel) (w : World) (e : Ending) (w' : World) : Prop := ∃ g, e = .returned (.slice (some ⟨g, 0, none⟩) cs.length cs.length) ∧ w.heap.size ≤ g ∧ Whole w' g 40 (flatC .i32 cs) ∧ Below w.heap.size w w'
theorem lay_zero (n : Nat) (cs : List Cel) (h : cs.length = n) : layC (List.replicate n zeroC) 0 (cs.take n) = cs := by
  subst h; unfold layC; simp
set_option maxRecDepth 100000 in
set_option maxHeartbeats 400000 in
theorem copied_any (A : Option Addr) (n c : Nat) (cs : List Cel) (w : World) (h : Cels .i32 w A cs) (hn : cs.length = n) (hl : n ≤ 1000000) : Calls Tryz.prog 95 #[.slice A n c] w (Lined cs w) := by
  have HC := hide h
  have HN := hide hn
  clear h hn
  go_enter Tryz.func95, Tryz.ntmps95
  go_wp2_with (at_make; refine stopw ?_)
  unfold Hid
  refine wpList_makeL elemL rfl _ _ rfl n rfl rfl hl (by omega) ?_
  intro w1 hw1 hb1
  have HW1 := hide hw1
  have HB1 := hide hb1
  clear hw1 hb1
  obtain ⟨w2, hrun, hw2, ho2⟩ := run_copyL elemL w1 3 w.heap.size 0 40 (List.replicate n zeroC) cs A n n n c HW1.out (HC.out.below HB1.out) HN.out (by simp)
  rw [Nat.zero_mul] at hrun
  rw [lay_zero n cs HN.out] at hw2
  have HW2 := hide hw2
  have HB2 := hide (ho2.below HB1.out HB1.out.size (Nat.le_refl _))
  clear hw2 ho2
  go_wp2
  go_ret
  exact ⟨_, by rw [HN.out]; rfl, Nat.le_refl _, HW2.out, HB2.out⟩
theorem set7 {α : Type} (L : List α) (o : Nat) (h : o + 7 ≤ L.length) (v0 v1 v2 v3 v4 v5 v6 : α) : ((((((L.set o v0).set (o + 1) v1).set (o + 2) v2).set (o + 3) v3).set (o + 4) v4).set (o + 5) v5).set (o + 6) v6 = L.take o ++ ([v0, v1, v2, v3, v4, v5, v6] ++ L.drop (o + 7)) := by
  apply List.ext_getElem?
  intro i
  by_cases h1 : i < o
  · rw [List.getElem?_append_left (by simp; omega), List.getElem?_take, if_pos h1]
    simp only [List.getElem?_set, List.length_set]
    simp [show ¬ o = i by omega, show ¬ o + 1 = i by omega, show ¬ o + 2 = i by omega, show ¬ o + 3 = i by omega, show ¬ o + 4 = i by omega, show ¬ o + 5 = i by omega, show ¬ o + 6 = i by omega]
  · obtain ⟨d, rfl⟩ : ∃ d, i = o + d := ⟨i - o, by omega⟩
    have hl : (L.take o).length = o := by simp; omega
    rw [List.getElem?_append_right (by omega), hl, show o + d - o = d by omega]
    simp only [List.getElem?_set, List.length_set]
    match d with
    | 0 => simp; omega
    | 1 => simp; omega
    | 2 => simp; omega
    | 3 => simp; omega
    | 4 => simp; omega
    | 5 => simp; omega
    | 6 => simp; omega
    | d + 7 =>
      rw [List.getElem?_append_right (by simp), List.getElem?_drop]
      simp
      congr 1
      omega
theorem put_cell {k : IntKind} {w : World} {g : Nat} {t : TypeId} {ds : List Cel} (h : Whole w g t (flatC k ds)) (o j : Nat) (ho : o = j * 7) (hj : j < ds.length) (c : Cel) :
    Whole (((((((w.setCell ⟨g, o, none⟩ (.int k c.r)).setCell ⟨g, o + 1, none⟩ (.int k c.m)).setCell ⟨g, o + 2, none⟩ (.int k c.n)).setCell ⟨g, o + 3, none⟩ (.int .u8 (c.w : Int))).setCell ⟨g, o + 4, none⟩ (.int .u8 (c.p.f : Int))).setCell ⟨g, o + 5, none⟩ (.int .u8 (c.p.g : Int))).setCell ⟨g, o + 6, none⟩ (.int .u8 (c.p.b : Int))) g t (flatC k (ds.set j c)) := by
  have e := ((((((h.put o (.int k c.r)).put (o + 1) (.int k c.m)).put (o + 2) (.int k c.n)).put (o + 3) (.int .u8 (c.w : Int))).put (o + 4) (.int .u8 (c.p.f : Int))).put (o + 5) (.int .u8 (c.p.g : Int))).put (o + 6) (.int .u8 (c.p.b : Int))
  rw [set7 _ o (by rw [flatC_len]; omega)] at e
  rw [set_lay ds j c hj, flat_lay]
  subst ho
  exact e
theorem only_cell {w : World} {g : Nat} (o : Nat) (x0 x1 x2 x3 x4 x5 x6 : Value) : Only g w (((((((w.setCell ⟨g, o, none⟩ x0).setCell ⟨g, o + 1, none⟩ x1).setCell ⟨g, o + 2, none⟩ x2).setCell ⟨g, o + 3, none⟩ x3).setCell ⟨g, o + 4, none⟩ x4).setCell ⟨g, o + 5, none⟩ x5).setCell ⟨g, o + 6, none⟩ x6) :=
  ((((((Only.put _ _).trans (Only.put _ _)).trans (Only.put _ _)).trans (Only.put _ _)).trans (Only.put _ _)).trans (Only.put _ _)).trans (Only.put _ _)
/-- What the walk wants to know of a cell in a row known whole. -/
theorem Whole.seven {k : IntKind} {w : World} {g : Nat} {t : TypeId} {ds : List Cel} (h : Whole w g t (flatC k ds)) (o j : Nat) (ho : o = j * 7) (hj : j < ds.length) :
    w.cell? ⟨g, o, none⟩ = some (.int k (cAt ds j).r) ∧ w.cell? ⟨g, o + 1, none⟩ = some (.int k (cAt ds j).m) ∧ w.cell? ⟨g, o + 2, none⟩ = some (.int k (cAt ds j).n) ∧ w.cell? ⟨g, o + 3, none⟩ = some (.int .u8 ((cAt ds j).w : Int)) ∧ w.cell? ⟨g, o + 4, none⟩ = some (.int .u8 ((cAt ds j).p.f : Int)) ∧ w.cell? ⟨g, o + 5, none⟩ = some (.int .u8 ((cAt ds j).p.g : Int)) ∧ w.cell? ⟨g, o + 6, none⟩ = some (.int .u8 ((cAt ds j).p.b : Int)) ∧ ∀ i, w.frozen? ⟨g, i, none⟩ = false := by
  subst ho
  have key : ∀ d v, d < 7 → (cellL k (cAt ds j))[d]? = some v → w.cell? ⟨g, j * 7 + d, none⟩ = some v := by
    intro d v hd hv
    rw [h.cell, flatC_get k ds j d hd, get_cAt ds j hj]
    exact hv
  exact ⟨key 0 _ (by omega) rfl, key 1 _ (by omega) rfl, key 2 _ (by omega) rfl, key 3 _ (by omega) rfl, key 4 _ (by omega) rfl, key 5 _ (by omega) rfl, key 6 _ (by omega) rfl, h.frozen⟩
/-- ds, k cells from p on being c. -/
def fillC (ds : List Cel) (p k : Nat) (c : Cel) : List Cel := tab ds.length (fun i => if p ≤ i ∧ i < p + k then c else cAt ds i)
theorem fill_len (ds : List Cel) (p k : Nat) (c : Cel) : (fillC ds p k c).length = ds.length := tab_len _ _
theorem fill_0 (ds : List Cel) (p : Nat) (c : Cel) : fillC ds p 0 c = ds := by
  unfold fillC
  conv => rhs; rw [← tab_self ds]
  exact tab_eq fun i _ => by rw [if_neg (by omega)]
theorem fill_next (ds : List Cel) (p k : Nat) (c : Cel) : fillC ds p (k + 1) c = (fillC ds p k c).set (p + k) c := by
  unfold fillC
  rw [tab_set]
  refine tab_eq fun i _ => ?_
  by_cases h : i = p + k
  · rw [if_pos (by omega), if_pos h]
  · rw [if_neg h]
    by_cases h2 : p ≤ i ∧ i < p + k
    · rw [if_pos (by omega), if_pos h2]
    · rw [if_neg (by omega), if_neg h2]
set_option maxRecDepth 100000 in
set_option maxHeartbeats 1000000 in
theorem fill_any (g p n cap : Nat) (r m x : Int) (d f y b : Nat) (ds : List Cel) (w : World) (h : Whole w g 40 (flatC .i32 ds)) (hp : p + n ≤ ds.length) (hl : ds.length ≤ 1000000) :
    Calls Tryz.prog 67 #[.slice (some ⟨g, p * 7, none⟩) n cap, .agg #[.int .i32 r, .int .i32 m, .int .i32 x, .int .u8 (d : Int), .int .u8 (f : Int), .int .u8 (y : Int), .int .u8 (b : Int)]] w fun e w' => e = .returned (.tuple #[]) ∧ Whole w' g 40 (flatC .i32 (fillC ds p n ⟨r, m, x, d, ⟨f, y, b⟩⟩)) ∧ Only g w w' := by
  obtain ⟨W0, hW0⟩ : ∃ W0, w.alloc (.cells #[.int .i32 r, .int .i32 m, .int .i32 x, .int .u8 (d : Int), .int .u8 (f : Int), .int .u8 (y : Int), .int .u8 (b : Int)] 40) = W0 := ⟨_, rfl⟩
  have HA : Hid (Whole W0 w.heap.size 40 [.int .i32 r, .int .i32 m, .int .i32 x, .int .u8 (d : Int), .int .u8 (f : Int), .int .u8 (y : Int), .int .u8 (b : Int)]) := by unfold Hid; rw [← hW0]; exact Whole.new w 40 [.int .i32 r, .int .i32 m, .int .i32 x, .int .u8 (d : Int), .int .u8 (f : Int), .int .u8 (y : Int), .int .u8 (b : Int)]
  have HG : Hid (Whole W0 g 40 (flatC .i32 ds)) := by unfold Hid; rw [← hW0]; exact h.alloc _
  have HO : Hid (Only g w W0) := by unfold Hid; rw [← hW0]; exact Only.of_below ((Below.refl _ _).alloc (Nat.le_refl _) _)
  have HL : Hid (g < w.heap.size) := h.lt
  have HW0 := hide hW0
  clear hW0 h
  obtain ⟨P, hP⟩ : ∃ P, p * 7 = P := ⟨_, rfl⟩
  rw [hP]
  have HP := hide hP
  clear hP
  go_enter Tryz.func67, Tryz.ntmps67
  go_wp2
  rw [HW0.out]
  go_loopw [4, 7] (fun _ i wr => ∃ k : Nat, k ≤ n ∧ i = .int .i64 k ∧ Whole wr g 40 (flatC .i32 (fillC ds p k ⟨r, m, x, d, ⟨f, y, b⟩⟩)) ∧ Only g W0 wr) (fun _ i _ => n - (intOf i).toNat)
  case atStart => exact ⟨0, Nat.zero_le _, rfl, by rw [fill_0]; exact HG.out, Only.refl⟩
  case round =>
    obtain ⟨k, hk, rfl, hw, ho⟩ := hrel
    by_cases hlt : k < n
    · obtain ⟨a0, a1, a2, a3, a4, a5, a6, -⟩ := cells7 (HA.out.far ho (by have := HL.out; omega))
      obtain ⟨b0, b1, b2, b3, b4, b5, b6, b7⟩ := hw.seven (P + k * 7) (p + k) (by rw [← HP.out]; omega) (by rw [fill_len]; omega)
      have HV := hide hw
      have HOO := hide ho
      clear hw ho
      go_wp2
      go_roundw
      case rel => exact ⟨k + 1, by omega, by go_num, by rw [fill_next]; exact put_cell HV.out _ (p + k) (by rw [← HP.out]; omega) (by rw [fill_len]; omega) ⟨r, m, x, d, ⟨f, y, b⟩⟩, HOO.out.trans (only_cell _ _ _ _ _ _ _ _)⟩
      case measure => simp [intOf]; omega
    · have HV := hide hw
      have HOO := hide ho
      clear hw ho
      obtain rfl : k = n := by omega
      go_wp2
      exact bodyPost_end (v := .tuple #[]) (by simp [results, Tryz.results67]) rfl ⟨rfl, HV.out, HO.out.trans HOO.out⟩
/-- A cell of a row known whole, as the walk wants it. -/
theorem Whole.sevenC {k : IntKind} {w : World} {g : Nat} {t : TypeId} {ds : List Cel} (h : Whole w g t (flatC k ds)) (o j : Nat) (ho : o = j * 7) (hj : j < ds.length) {r m x : Int} {d f y b : Nat} (hc : cAt ds j = ⟨r, m, x, d, ⟨f, y, b⟩⟩) :
    w.cell? ⟨g, o, none⟩ = some (.int k r) ∧ w.cell? ⟨g, o + 1, none⟩ = some (.int k m) ∧ w.cell? ⟨g, o + 2, none⟩ = some (.int k x) ∧ w.cell? ⟨g, o + 3, none⟩ = some (.int .u8 (d : Int)) ∧ w.cell? ⟨g, o + 4, none⟩ = some (.int .u8 (f : Int)) ∧ w.cell? ⟨g, o + 5, none⟩ = some (.int .u8 (y : Int)) ∧ w.cell? ⟨g, o + 6, none⟩ = some (.int .u8 (b : Int)) ∧ ∀ i, w.frozen? ⟨g, i, none⟩ = false := by
  have := h.seven o j ho hj
  rw [hc] at this
  exact this
/-- A cell of a slice that is read. -/
theorem Cels.sevenC {k : IntKind} {w : World} {g off : Nat} {ds : List Cel} (h : Cels k w (some ⟨g, off, none⟩) ds) (j : Nat) (hj : j < ds.length) {r m x : Int} {d f y b : Nat} (hc : cAt ds j = ⟨r, m, x, d, ⟨f, y, b⟩⟩) :
    w.cell? ⟨g, off + j * 7, none⟩ = some (.int k r) ∧ w.cell? ⟨g, off + j * 7 + 1, none⟩ = some (.int k m) ∧ w.cell? ⟨g, off + j * 7 + 2, none⟩ = some (.int k x) ∧ w.cell? ⟨g, off + j * 7 + 3, none⟩ = some (.int .u8 (d : Int)) ∧ w.cell? ⟨g, off + j * 7 + 4, none⟩ = some (.int .u8 (f : Int)) ∧ w.cell? ⟨g, off + j * 7 + 5, none⟩ = some (.int .u8 (y : Int)) ∧ w.cell? ⟨g, off + j * 7 + 6, none⟩ = some (.int .u8 (b : Int)) ∧ g < w.heap.size := by
  obtain ⟨b', off', e, hb, key⟩ := h.at hj
  cases e
  rw [hc] at key
  exact ⟨key 0 _ rfl, key 1 _ rfl, key 2 _ rfl, key 3 _ rfl, key 4 _ rfl, key 5 _ rfl, key 6 _ rfl, hb⟩
set_option maxRecDepth 100000 in
set_option maxHeartbeats 2000000 in
theorem mendown_any (g n : Nat) (ds : List Cel) (w : World) (h : Whole w g 40 (flatC .i32 ds)) (hn : ds.length = n) (hl : n ≤ 1000000) :
    Calls Tryz.prog 93 #[.slice (some ⟨g, 0, none⟩) n n] w fun e w' => e = .returned (.slice (some ⟨g, 0, none⟩) n n) ∧ Whole w' g 40 (flatC .i32 (mendC ds)) ∧ Only g w w' := by
  have HG := hide h
  have HN := hide hn
  clear h hn
  go_enter Tryz.func93, Tryz.ntmps93
  go_wp2
  go_loopw [3, 4, 7] (fun _ _ i wr => ∃ k : Nat, k ≤ n ∧ i = .int .i64 k ∧ Whole wr g 40 (flatC .i32 (mixC ds k)) ∧ Only g w wr) (fun _ _ i _ => n - (intOf i).toNat)
  case atStart => exact ⟨0, Nat.zero_le _, rfl, by rw [mix_0]; exact HG.out, Only.refl⟩
  case round =>
    obtain ⟨k, hk, rfl, hw, ho⟩ := hrel
    have HV := hide hw
    have HOO := hide ho
    clear hw ho
    by_cases hlt : k < n
    · obtain ⟨⟨r, m, x, d, ⟨f, y, b⟩⟩, hc⟩ : ∃ c, cAt (mixC ds k) k = c := ⟨_, rfl⟩
      have HM : Hid (cAt ds k = ⟨r, m, x, d, ⟨f, y, b⟩⟩) := by unfold Hid; rw [← hc, mix_self ds k (by rw [HN.out]; exact hlt)]
      obtain ⟨a0, a1, a2, a3, a4, a5, a6, -⟩ := HV.out.sevenC (k * 7) k rfl (by rw [mix_len, HN.out]; exact hlt) hc
      obtain ⟨W1, hW1⟩ : ∃ W1, wr.alloc (.cells #[.int .i32 r, .int .i32 m, .int .i32 x, .int .u8 (d : Int), .int .u8 (f : Int), .int .u8 (y : Int), .int .u8 (b : Int)] 40) = W1 := ⟨_, rfl⟩
      have HA : Hid (Whole W1 wr.heap.size 40 [.int .i32 r, .int .i32 m, .int .i32 x, .int .u8 (d : Int), .int .u8 (f : Int), .int .u8 (y : Int), .int .u8 (b : Int)]) := by unfold Hid; rw [← hW1]; exact Whole.new wr 40 [.int .i32 r, .int .i32 m, .int .i32 x, .int .u8 (d : Int), .int .u8 (f : Int), .int .u8 (y : Int), .int .u8 (b : Int)]
      have HG1 : Hid (Whole W1 g 40 (flatC .i32 (mixC ds k))) := by unfold Hid; rw [← hW1]; exact HV.out.alloc _
      have HO1 : Hid (Only g w W1) := by unfold Hid; rw [← hW1]; exact HOO.out.trans (Only.of_below ((Below.refl _ _).alloc (Nat.le_refl _) _))
      have HL : Hid (g < wr.heap.size) := HV.out.lt
      have HW1 := hide hW1
      have HAL := hide (mix_alone ds k (by rw [HN.out]; exact hlt))
      clear hW1 hc HV HOO
      go_wp2_with fail
      rw [HW1.out]
      refine (alone_any (some ⟨g, 0, none⟩) n n k (mixC ds k) W1 HG1.out.cels (by rw [mix_len, HN.out]) hlt hl).mono ?_
      rintro e w1 ⟨rfl, rfl⟩
      rw [HAL.out]
      clear a0 a1 a2 a3 a4 a5 a6
      cases hal : aloneC ds k
      case false =>
        have HS := hide (mix_stay ds k (by rw [HN.out]; exact hlt) hal)
        clear hal
        go_wp2
        go_roundw
        case rel => exact ⟨k + 1, by omega, by go_num, by rw [HS.out]; exact HG1.out, HO1.out⟩
        case measure => simp [intOf]; omega
      case true =>
        have HS : Hid (mixC ds (k + 1) = (mixC ds k).set k ⟨32, 0, 0, 1, ⟨f, y, b⟩⟩) := by unfold Hid; rw [mix_next, mendAt_yes ds k hal, HM.out]; rfl
        clear hal
        obtain ⟨a0, a1, a2, a3, a4, a5, a6, -⟩ := cells7 HA.out
        go_wp2_with fail
        refine (blank_v f y b W1).mono ?_
        rintro e w2 ⟨rfl, hb⟩
        clear a0 a1 a2 a3 a4 a5 a6
        have HG2 := hide (HG1.out.later hb)
        have HO2 := hide (HO1.out.trans (Only.of_below hb))
        clear hb
        obtain ⟨b0, b1, b2, b3, b4, b5, b6, b7⟩ := HG2.out.seven (k * 7) k rfl (by rw [mix_len, HN.out]; exact hlt)
        go_wp2
        go_roundw
        case rel => exact ⟨k + 1, by omega, by go_num, by rw [HS.out]; exact put_cell HG2.out _ k rfl (by rw [mix_len, HN.out]; exact hlt) ⟨32, 0, 0, 1, ⟨f, y, b⟩⟩, HO2.out.trans (only_cell _ _ _ _ _ _ _ _)⟩
        case measure => simp [intOf]; omega
    · go_wp2
      go_ret
      exact ⟨rfl, by rw [← mix_all ds k (by rw [HN.out]; omega)]; exact HV.out, HOO.out⟩
end Go.Proofs.YtiifeniijcnahaaGreatDoor

namespace Go.Proofs.YtiifeniijcnahaaGreatDoor
set_option maxRecDepth 100000
open Go.ChangeShapes Go.WideShapes Go.ChangeAt Go.RowKit
set_option linter.unusedVariables false

theorem fill_new (n : Int) : fillC (List.replicate (lenN n) zeroC) 0 (lenN n) (blankC zeroP) = newC n := by
  unfold fillC newC
  rw [List.length_replicate]
  exact tab_eq fun i hi => by rw [if_pos (by omega)]
theorem new_len (n : Int) : (newC n).length = lenN n := tab_len _ _
set_option maxRecDepth 100000 in
set_option maxHeartbeats 1000000 in
theorem new_any (n : Int) (w : World) : Calls Tryz.prog 29 #[.int .i64 n] w (Lined (newC n) w) := by
  obtain ⟨N, hN⟩ : ∃ N, lenN n = N := ⟨_, rfl⟩
  have hm : min (max n 0) 512 = (N : Int) := by rw [← hN]; unfold lenN; omega
  have hl : N ≤ 512 := by rw [← hN]; exact lenN_le n
  have HN := hide hN
  clear hN
  go_enter Tryz.func29, Tryz.ntmps29
  go_wp2_with (at_make; refine stopw ?_)
  unfold Hid
  refine wpList_makeL elemL rfl _ _ rfl N rfl rfl (by omega) (by omega) ?_
  intro w1 hw1 hb1
  have HW1 := hide hw1
  have HB1 := hide hb1
  clear hw1 hb1
  go_wp2_with fail
  refine (blank_v 0 0 0 w1).mono ?_
  rintro e w2 ⟨rfl, hb⟩
  have HW2 := hide (HW1.out.later hb)
  have HB2 := hide (HB1.out.trans (hb.mono HB1.out.size))
  clear hb
  go_wp2_with fail
  refine (fill_any w.heap.size 0 N N 32 0 0 1 0 0 0 (List.replicate N zeroC) w2 HW2.out (by simp) (by simp; omega)).mono ?_
  rintro e w3 ⟨rfl, hw3, ho3⟩
  have HW3 : Hid (Whole w3 w.heap.size 40 (flatC .i32 (newC n))) := by unfold Hid; rw [← fill_new, HN.out]; exact hw3
  have HB3 := hide (ho3.below HB2.out HB2.out.size (Nat.le_refl _))
  clear hw3 ho3
  go_wp2
  go_ret
  exact ⟨_, by rw [new_len, HN.out]; rfl, Nat.le_refl _, HW3.out, HB3.out⟩
theorem lay_new (n : Int) (cs : List Cel) : layC (newC n) 0 (cs.take (lenN n)) = fitTab cs n := by
  rw [lay_tab _ _ _ (by rw [new_len, List.length_take]; omega), new_len]
  unfold fitTab
  refine tab_eq fun i hi => ?_
  rw [List.length_take]
  by_cases h : i < cs.length
  · rw [if_pos (by omega), if_pos h]
    unfold cAt
    simp [hi]
  · rw [if_neg (by omega), if_neg h]
    exact tab_cAt _ _ _ hi
theorem fitTab_len (cs : List Cel) (n : Int) : (fitTab cs n).length = lenN n := tab_len _ _
theorem fit_len (cs : List Cel) (n : Int) : (fitC cs n).length = lenN n := by unfold fitC; rw [mend_len, fitTab_len]
set_option maxRecDepth 100000 in
set_option maxHeartbeats 1000000 in
theorem lfit_any (A : Option Addr) (n c : Nat) (x : Int) (cs : List Cel) (w : World) (h : Cels .i32 w A cs) (hn : cs.length = n) : Calls Tryz.prog 60 #[.slice A n c, .int .i64 x] w (Lined (fitC cs x) w) := by
  have HC := hide h
  have HN := hide hn
  clear h hn
  obtain ⟨N, hN⟩ : ∃ N, lenN x = N := ⟨_, rfl⟩
  have hl : N ≤ 512 := by rw [← hN]; exact lenN_le x
  have HX := hide hN
  clear hN
  go_enter Tryz.func60, Tryz.ntmps60
  go_wp2_with fail
  refine (new_any x w).mono ?_
  rintro e w1 ⟨g, rfl, hg, hw, hb⟩
  have HW1 := hide hw
  have HB1 := hide hb
  have HG := hide hg
  clear hw hb hg
  rw [new_len, HX.out]
  obtain ⟨w2, hrun, hw2, ho2⟩ := run_copyL elemL w1 3 g 0 40 (newC x) cs A N N n c HW1.out (HC.out.below HB1.out) HN.out (by rw [new_len, HX.out]; omega)
  rw [Nat.zero_mul] at hrun
  have HW2 : Hid (Whole w2 g 40 (flatC .i32 (fitTab cs x))) := by unfold Hid; rw [← lay_new, HX.out]; exact hw2
  have HB2 := hide (ho2.below HB1.out HB1.out.size HG.out)
  clear hw2 ho2
  go_wp2_with fail
  refine (mendown_any g N (fitTab cs x) w2 HW2.out (by rw [fitTab_len, HX.out]) (by omega)).mono ?_
  rintro e w3 ⟨rfl, hw, ho⟩
  have HW3 := hide hw
  have HB3 := hide (ho.below HB2.out HB2.out.size HG.out)
  clear hw ho
  go_wp2
  go_ret
  exact ⟨g, by rw [fit_len, HX.out]; rfl, HG.out, HW3.out, HB3.out⟩
set_option maxRecDepth 100000 in
set_option maxHeartbeats 1000000 in
theorem cut_any (g n p q : Nat) (w : World) (h : p < q) (hq : q ≤ n) : Calls Tryz.prog 97 #[.slice (some ⟨g, 0, none⟩) n n, .int .i64 (p : Int), .int .i64 (q : Int)] w fun e w' => e = .returned (.slice (some ⟨g, p * 7, none⟩) (q - p) (q - p)) ∧ w = w' := by
  have hne : ¬ n = p := by omega
  go_enter Tryz.func97, Tryz.ntmps97
  go_wp2
  go_ret
  exact ⟨rfl, rfl⟩
end Go.Proofs.YtiifeniijcnahaaGreatDoor
