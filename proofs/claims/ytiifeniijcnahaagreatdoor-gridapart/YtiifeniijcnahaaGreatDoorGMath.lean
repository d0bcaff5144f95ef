/-
  Plain mathematics of layer 7 (grid): rows of lines with a cursor; what is put, marked, erased, laid, moved, scrolled, fitted, and that it stays right. No Go text, no program.
-/
import Derived.Test.YtiifeniijcnahaaGreatDoorLnc
import Derived.Test.YtiifeniijcnahaaGreatDoorLnd
namespace Go.Proofs.YtiifeniijcnahaaGreatDoor
set_option maxRecDepth 100000
set_option linter.unusedVariables false

/-- A grid: its lines, the cursor's row and column. -/
structure Gd where
  ls : List (List Cel)
  row : Nat
  col : Nat

/-- The line of a row. -/
def lAt (ls : List (List Cel)) (i : Nat) : List Cel := ls.getD i []
/-- n lines, by a rule. -/
def gtab (n : Nat) (f : Nat → List Cel) : List (List Cel) := (List.range n).map f
theorem gtab_len (n : Nat) (f : Nat → List Cel) : (gtab n f).length = n := by simp [gtab]
theorem gtab_get (n : Nat) (f : Nat → List Cel) (i : Nat) (h : i < n) : (gtab n f)[i]? = some (f i) := by simp [gtab, h]
theorem gtab_no (n : Nat) (f : Nat → List Cel) (i : Nat) (h : n ≤ i) : (gtab n f)[i]? = none := by simp [gtab, h]
theorem gtab_lAt (n : Nat) (f : Nat → List Cel) (i : Nat) (h : i < n) : lAt (gtab n f) i = f i := by
  unfold lAt; rw [List.getD_eq_getElem?_getD, gtab_get n f i h]; rfl
theorem gtab_snoc (n : Nat) (f : Nat → List Cel) : gtab (n + 1) f = gtab n f ++ [f n] := by simp [gtab, List.range_succ]
theorem get_lAt (l : List (List Cel)) (i : Nat) (h : i < l.length) : l[i]? = some (lAt l i) := by
  unfold lAt; rw [List.getD_eq_getElem?_getD, List.getElem?_eq_getElem h]; rfl
theorem gtab_self (l : List (List Cel)) : gtab l.length (lAt l) = l := by
  apply List.ext_getElem?
  intro i
  by_cases h : i < l.length
  · rw [gtab_get _ _ _ h, get_lAt l i h]
  · rw [gtab_no _ _ _ (by omega), List.getElem?_eq_none (by omega)]
theorem gtab_eq {n : Nat} {f g : Nat → List Cel} (h : ∀ i, i < n → f i = g i) : gtab n f = gtab n g := by
  apply List.ext_getElem?
  intro i
  by_cases hi : i < n
  · rw [gtab_get _ _ _ hi, gtab_get _ _ _ hi, h i hi]
  · rw [gtab_no _ _ _ (by omega), gtab_no _ _ _ (by omega)]
theorem gtab_is {l : List (List Cel)} {n : Nat} {f : Nat → List Cel} (hn : l.length = n) (h : ∀ i, i < n → lAt l i = f i) : l = gtab n f := by
  subst hn; rw [← gtab_eq h, gtab_self]
theorem set_lAt (l : List (List Cel)) (r i : Nat) (x : List Cel) (h : i < l.length) : lAt (l.set r x) i = if i = r then x else lAt l i := by
  unfold lAt
  rw [List.getD_eq_getElem?_getD, List.getElem?_set]
  by_cases q : r = i
  · subst q; simp [h]
  · rw [if_neg q, if_neg (Ne.symm q), List.getD_eq_getElem?_getD]
theorem set_same (l : List (List Cel)) (r : Nat) : l.set r (lAt l r) = l := by
  apply List.ext_getElem?
  intro i
  rw [List.getElem?_set]
  by_cases h : r = i
  · subst h
    by_cases q : r < l.length
    · rw [if_pos rfl, if_pos q, get_lAt l r q]
    · simp [q]
  · simp [h]
theorem set_gtab (l : List (List Cel)) (r : Nat) (x : List Cel) : l.set r x = gtab l.length (fun i => if i = r then x else lAt l i) := by
  refine gtab_is (by simp) fun i hi => set_lAt l r i x hi

/-- Is there such a row? -/
def hasG (n : Nat) (r : Int) : Prop := 0 ≤ r ∧ r < (n : Int)
instance (n : Nat) (r : Int) : Decidable (hasG n r) := by unfold hasG; infer_instance
/-- A number, brought to those below a count. -/
def nearN (x : Int) (n : Nat) : Nat := (min (max x 0) ((n : Int) - 1)).toNat
theorem nearN_lt (x : Int) (n : Nat) (h : 1 ≤ n) : nearN x n < n := by unfold nearN; omega
theorem nearN_self (k n : Nat) (h : k < n) : nearN (k : Int) n = k := by unfold nearN; omega
def sizeN (r c : Int) : Prop := (1 ≤ r ∧ r ≤ 512) ∧ (1 ≤ c ∧ c ≤ 512)
instance (r c : Int) : Decidable (sizeN r c) := by unfold sizeN; infer_instance

def newG (R C : Nat) : Gd := ⟨gtab R (fun _ => newC (C : Int)), 0, 0⟩
def putG (g : Gd) (r c : Int) (x : Cel) : Gd := if hasG g.ls.length r then { g with ls := g.ls.set r.toNat (putC (lAt g.ls r.toNat) c x) } else g
def putGOk (g : Gd) (r c : Int) (x : Cel) : Bool := decide (hasG g.ls.length r) && putOk (lAt g.ls r.toNat) c x
def markG (g : Gd) (r c m : Int) : Gd := if hasG g.ls.length r then { g with ls := g.ls.set r.toNat (lmarkC (lAt g.ls r.toNat) c m).1 } else g
def markGOk (g : Gd) (r c m : Int) : Bool := decide (hasG g.ls.length r) && (lmarkC (lAt g.ls r.toNat) c m).2
def eraseG (g : Gd) (r x y : Int) (p : Pn) : Gd := if hasG g.ls.length r ∧ rightN p = true then { g with ls := g.ls.set r.toNat (eraseC (lAt g.ls r.toNat) x y p) } else g
def layOk (g : Gd) (r : Int) (l : List Cel) (C : Nat) : Bool := decide (hasG g.ls.length r) && (decide (l.length = C) && rightL l)
def layG (g : Gd) (r : Int) (l : List Cel) (C : Nat) : Gd := if layOk g r l C = true then { g with ls := g.ls.set r.toNat l } else g
def moveG (g : Gd) (r c : Int) (C : Nat) : Gd := { g with row := nearN r g.ls.length, col := nearN c C }
def clampI (n : Int) (R : Nat) : Int := min (max n (-(R : Int))) (R : Int)
/-- The line that a row has behind a scroll by a number that is no more than there are. -/
def scrollAt (ls : List (List Cel)) (C : Nat) (n : Int) (p : Pn) (i : Nat) : List Cel :=
  if 0 ≤ (i : Int) + n ∧ (i : Int) + n < (ls.length : Int) then lAt ls ((i : Int) + n).toNat else tab C (fun _ => blankC p)
def scrollG (g : Gd) (C : Nat) (n : Int) (p : Pn) : Gd := if rightN p = true then { g with ls := gtab g.ls.length (scrollAt g.ls C (clampI n g.ls.length) p) } else g
def fitAtG (ls : List (List Cel)) (C : Nat) (i : Nat) : List Cel := if i < ls.length then fitC (lAt ls i) (C : Int) else newC (C : Int)
def fitG (g : Gd) (R C : Nat) : Gd := ⟨gtab R (fitAtG g.ls C), nearN (g.row : Int) R, nearN (g.col : Int) C⟩

/-- What a grid always is: R lines of C cells, all right, the cursor within. -/
structure GOk (g : Gd) (R C : Nat) : Prop where
  r1 : 1 ≤ R
  r2 : R ≤ 512
  c1 : 1 ≤ C
  c2 : C ≤ 512
  len : g.ls.length = R
  each : ∀ i, i < R → (lAt g.ls i).length = C ∧ rightL (lAt g.ls i) = true ∧ LB (lAt g.ls i)
  row : g.row < R
  col : g.col < C

theorem lenN_nat (C : Nat) (h : C ≤ 512) : lenN (C : Int) = C := by unfold lenN; omega
theorem newC_len (C : Nat) (h : C ≤ 512) : (newC (C : Int)).length = C := by rw [newC, tab_len, lenN_nat C h]
theorem newC_is (C : Nat) (h : C ≤ 512) : newC (C : Int) = tab C (fun _ => blankC zeroP) := by unfold newC; rw [lenN_nat C h]
theorem right_blanks (C : Nat) {p : Pn} (hp : rightN p = true) : rightL (tab C (fun _ => blankC p)) = true := by
  rw [rightL_iff]
  intro i hi
  rw [tab_len] at hi
  have hw : wAt (tab C fun _ => blankC p) i = 1 := tab_wAt _ _ _ hi
  rw [okAt_iff, tab_cAt _ _ _ hi]
  exact ⟨right_blank hp, alone_1 hw, fun h => by omega⟩
theorem right_new (C : Nat) (h : C ≤ 512) : rightL (newC (C : Int)) = true := by rw [newC_is C h]; exact right_blanks C (by decide)
theorem erase_all (l : List Cel) (C : Nat) (hl : l.length = C) (p : Pn) : eraseC l 0 (C : Int) p = tab C (fun _ => blankC p) := by
  have e : eraseTab l 0 (C : Int) p = tab C (fun _ => blankC p) := by
    unfold eraseTab
    rw [hl]
    exact tab_eq fun i hi => by rw [if_pos (by omega)]
  unfold eraseC
  rw [e]
  refine mend_stays fun i hi => ?_
  rw [tab_len] at hi
  exact alone_1 (tab_wAt _ _ _ hi)
theorem fit_nil (C : Nat) : fitC [] (C : Int) = newC (C : Int) := by
  unfold fitC fitTab newC
  have e : tab (lenN (C : Int)) (fun i => if i < ([] : List Cel).length then cAt [] i else blankC zeroP) = tab (lenN (C : Int)) (fun _ => blankC zeroP) := tab_eq fun i hi => by rw [if_neg (by simp)]
  rw [e]
  refine mend_stays fun i hi => ?_
  rw [tab_len] at hi
  exact alone_1 (tab_wAt _ _ _ hi)
theorem fitAtG_is (ls : List (List Cel)) (C i : Nat) : fitAtG ls C i = fitC (lAt ls i) (C : Int) := by
  unfold fitAtG
  split
  · rfl
  · rename_i h
    rw [show lAt ls i = [] by unfold lAt; rw [List.getD_eq_getElem?_getD, List.getElem?_eq_none (by omega)]; rfl, fit_nil]
theorem mark_no (c : Cel) (r : Int) (h : (markC c r).2 = false) : (markC c r).1 = c := by
  unfold markC at *
  split
  · rename_i q
    rw [if_pos q] at h
    split
    · rename_i q2; rw [if_pos q2] at h; cases h
    · rename_i q2
      rw [if_neg q2] at h
      split
      · rename_i q3; rw [if_pos q3] at h; cases h
      · rfl
  · rfl
theorem set_self (l : List Cel) (k : Nat) : l.set k (cAt l k) = l := by
  rw [set_tab]
  conv => rhs; rw [← tab_self l]
  refine tab_eq fun i hi => ?_
  split
  · rename_i h; rw [h]
  · rfl
theorem markL_no (l : List Cel) (a r : Int) (h : (lmarkC l a r).2 = false) : (lmarkC l a r).1 = l := by
  unfold lmarkC at *
  split
  · rename_i q
    rw [if_pos q] at h
    simp only at h ⊢
    rw [mark_no _ _ h, set_self]
  · rfl
theorem putL_no (l : List Cel) (a : Int) (c : Cel) (h : putOk l a c = false) : putC l a c = l := by unfold putC; rw [h]; rfl

section
variable {g : Gd} {R C : Nat}
theorem GOk.new (r1 : 1 ≤ R) (r2 : R ≤ 512) (c1 : 1 ≤ C) (c2 : C ≤ 512) : GOk (newG R C) R C :=
  ⟨r1, r2, c1, c2, gtab_len _ _, fun i hi => by
    have e : lAt (newG R C).ls i = newC (C : Int) := gtab_lAt _ _ _ hi
    rw [e]
    exact ⟨newC_len C c2, right_new C c2, LB_new _⟩, by show 0 < R; omega, by show 0 < C; omega⟩
theorem GOk.set (h : GOk g R C) (r : Nat) (l : List Cel) (hl : l.length = C ∧ rightL l = true ∧ LB l) : GOk { g with ls := g.ls.set r l } R C :=
  ⟨h.r1, h.r2, h.c1, h.c2, by rw [List.length_set]; exact h.len, fun i hi => by
    show (lAt (g.ls.set r l) i).length = C ∧ rightL (lAt (g.ls.set r l) i) = true ∧ LB (lAt (g.ls.set r l) i)
    rw [set_lAt _ _ _ _ (by rw [h.len]; exact hi)]
    split
    · exact hl
    · exact h.each i hi, h.row, h.col⟩
theorem GOk.at (h : GOk g R C) {r : Int} (hr : hasG g.ls.length r) : r.toNat < R := by have := h.len; unfold hasG at hr; omega
theorem GOk.put (h : GOk g R C) (r c : Int) (x : Cel) (hx : CelB x) : GOk (putG g r c x) R C := by
  unfold putG
  split
  · rename_i hr
    obtain ⟨h1, h2, h3⟩ := h.each _ (h.at hr)
    exact h.set _ _ ⟨by rw [put_len, h1], right_put h2, LB_put h3 hx⟩
  · exact h
theorem GOk.mark (h : GOk g R C) (r c m : Int) (hm : R32 m) : GOk (markG g r c m) R C := by
  unfold markG
  split
  · rename_i hr
    obtain ⟨h1, h2, h3⟩ := h.each _ (h.at hr)
    exact h.set _ _ ⟨by rw [lmark_len, h1], right_lmark h2, LB_mark h3 hm⟩
  · exact h
theorem GOk.erase (h : GOk g R C) (r x y : Int) (p : Pn) : GOk (eraseG g r x y p) R C := by
  unfold eraseG
  split
  · rename_i hr
    obtain ⟨h1, h2, h3⟩ := h.each _ (h.at hr.1)
    exact h.set _ _ ⟨by rw [erase_len, h1], right_erase h2 hr.2, LB_erase h3⟩
  · exact h
theorem GOk.lay (h : GOk g R C) (r : Int) (l : List Cel) (hl : LB l) : GOk (layG g r l C) R C := by
  unfold layG
  split
  · rename_i hr
    unfold layOk at hr
    simp only [Bool.and_eq_true, decide_eq_true_iff] at hr
    exact h.set _ _ ⟨hr.2.1, hr.2.2, hl⟩
  · exact h
theorem GOk.move (h : GOk g R C) (r c : Int) : GOk (moveG g r c C) R C :=
  ⟨h.r1, h.r2, h.c1, h.c2, h.len, h.each, by show nearN r g.ls.length < R; rw [h.len]; exact nearN_lt _ _ h.r1, nearN_lt _ _ h.c1⟩
theorem GOk.scroll (h : GOk g R C) (n : Int) (p : Pn) : GOk (scrollG g C n p) R C := by
  unfold scrollG
  split
  · rename_i hp
    refine ⟨h.r1, h.r2, h.c1, h.c2, by rw [gtab_len]; exact h.len, fun i hi => ?_, h.row, h.col⟩
    have e : lAt (gtab g.ls.length (scrollAt g.ls C (clampI n g.ls.length) p)) i = scrollAt g.ls C (clampI n g.ls.length) p i := gtab_lAt _ _ _ (by rw [h.len]; exact hi)
    show (lAt (gtab g.ls.length (scrollAt g.ls C (clampI n g.ls.length) p)) i).length = C ∧ rightL (lAt (gtab g.ls.length (scrollAt g.ls C (clampI n g.ls.length) p)) i) = true ∧ LB (lAt (gtab g.ls.length (scrollAt g.ls C (clampI n g.ls.length) p)) i)
    rw [e]
    unfold scrollAt
    split
    · rename_i hq
      exact h.each _ (by have := h.len; omega)
    · exact ⟨tab_len _ _, right_blanks C hp, LB_tab fun _ _ => celB_blank _⟩
  · exact h
theorem GOk.fit (h : GOk g R C) {R' C' : Nat} (r1 : 1 ≤ R') (r2 : R' ≤ 512) (c1 : 1 ≤ C') (c2 : C' ≤ 512) : GOk (fitG g R' C') R' C' := by
  refine ⟨r1, r2, c1, c2, gtab_len _ _, fun i hi => ?_, nearN_lt _ _ r1, nearN_lt _ _ c1⟩
  have e : lAt (fitG g R' C').ls i = fitAtG g.ls C' i := gtab_lAt _ _ _ hi
  rw [e]
  unfold fitAtG
  split
  · rename_i q
    obtain ⟨h1, h2, h3⟩ := h.each i (by rw [← h.len]; exact q)
    exact ⟨by rw [fit_len, lenN_nat _ c2], right_fit h2, LB_fit h3⟩
  · exact ⟨newC_len _ c2, right_new _ c2, LB_new _⟩
end
end Go.Proofs.YtiifeniijcnahaaGreatDoor
