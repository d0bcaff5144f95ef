/-
  Contracts and plain mathematics of LMath2, GMath, UMath, UMath2.
-/
import Derived.Test.YtkijclgbpbhglaaGreatDoorQd1
import Derived.Test.YtkijclgbpbhglaaGreatDoorQd7
namespace Go.Proofs.YtkijclgbpbhglaaGreatDoor
set_option maxRecDepth 100000
set_option linter.unusedVariables false
set_option maxHeartbeats 8000000
theorem alone_congr {l l' : List Cel} (h : ∀ i, wAt l i = wAt l' i) (i : Nat) : aloneC l i = aloneC l' i := by unfold aloneC; rw [h i, h (i + 1), h (i - 1)]
theorem alone_1 {l : List Cel} {i : Nat} (h : wAt l i = 1) : aloneC l i = false := by unfold aloneC; rw [if_neg (by omega), if_neg (by omega)]
theorem alone_of2 {l : List Cel} {i : Nat} (h : wAt l i = 2) (h1 : wAt l (i + 1) = 0) : aloneC l i = false := by unfold aloneC; rw [if_pos h]; simp [h1]
theorem alone_of0 {l : List Cel} {i : Nat} (h : wAt l i = 0) (h0 : i ≠ 0) (h1 : wAt l (i - 1) = 2) : aloneC l i = false := by unfold aloneC; rw [if_neg (by omega), if_pos h]; simp [h0, h1]
theorem mend_wAt (l : List Cel) (i : Nat) (hi : i < l.length) : wAt (mendC l) i = if aloneC l i = true then 1 else wAt l i := by
 rw [wAt_in _ _ (by rw [mend_len]; exact hi), mend_cAt l i hi, wAt_in l i hi]
 unfold mendAt
 split <;> rfl
theorem mend_w2 {l : List Cel} {i : Nat} (h : wAt (mendC l) i = 2) : wAt l i = 2 ∧ aloneC l i = false := by
 have hi : i < l.length := by have := wAt_lt (l := mendC l) (i := i) (by omega); rwa [mend_len] at this
 rw [mend_wAt l i hi] at h
 cases q : aloneC l i
 ·rw [q] at h; simp at h; exact ⟨h, rfl⟩
 ·rw [q] at h; simp at h
theorem mend_w0 {l : List Cel} {i : Nat} (h : wAt (mendC l) i = 0) : wAt l i = 0 ∧ aloneC l i = false := by
 have hi : i < l.length := by have := wAt_lt (l := mendC l) (i := i) (by omega); rwa [mend_len] at this
 rw [mend_wAt l i hi] at h
 cases q : aloneC l i
 ·rw [q] at h; simp at h; exact ⟨h, rfl⟩
 ·rw [q] at h; simp at h
theorem mend_none (l : List Cel) (i : Nat) : aloneC (mendC l) i = false := by
 by_cases h2 : wAt (mendC l) i = 2
 ·obtain ⟨h3, h4⟩ := mend_w2 h2
  have h5 := alone_2 h3 h4
  have hi1 : i + 1 < l.length := wAt_lt (by omega)
  refine alone_of2 h2 ?_
  rw [mend_wAt l _ hi1, alone_of0 h5 (by omega) h3]
  simp [h5]
 ·by_cases h0 : wAt (mendC l) i = 0
  ·obtain ⟨h3, h4⟩ := mend_w0 h0
   obtain ⟨h5, h6⟩ := alone_0 h3 h4
   have hi1 : i - 1 < l.length := wAt_lt (by omega)
   refine alone_of0 h0 h5 ?_
   rw [mend_wAt l _ hi1, alone_of2 h6 (by rw [show i - 1 + 1 = i by omega]; exact h3)]
   simp [h6]
  ·unfold aloneC; rw [if_neg h2, if_neg h0]
theorem mend_stays {l : List Cel} (h : ∀ i, i < l.length → aloneC l i = false) : mendC l = l := by
 unfold mendC
 conv => rhs; rw [← tab_self l]
 exact tab_eq fun i hi => mendAt_no l i (h i hi)
def fine (l : List Cel) : Prop := ∀ i, i < l.length → rightC (cAt l i) = true ∧ (wAt l i = 0 → i ≠ 0 → wAt l (i - 1) = 2 → (cAt l i).p = (cAt l (i - 1)).p)
theorem right_of_fine {l : List Cel} (h : fine l) : rightL (mendC l) = true := by
 rw [rightL_iff]
 intro i hi
 rw [mend_len] at hi
 rw [okAt_iff]
 refine ⟨?_, mend_none l i, fun h0 => ?_⟩
 ·rw [mend_cAt l i hi]
  unfold mendAt
  split
  ·exact right_blank (right_pen (h i hi).1)
  ·exact (h i hi).1
 ·obtain ⟨h3, h4⟩ := mend_w0 h0
  obtain ⟨h5, h6⟩ := alone_0 h3 h4
  have h7 := alone_of2 h6 (by rw [show i - 1 + 1 = i by omega]; exact h3)
  rw [mend_cAt l i hi, mend_cAt l (i - 1) (by omega), mendAt_no l i h4, mendAt_no l (i - 1) h7]
  exact (h i hi).2 h3 h5 h6
theorem fine_of_right {l : List Cel} (h : rightL l = true) {i : Nat} (hi : i < l.length) : rightC (cAt l i) = true ∧ (wAt l i = 0 → (cAt l i).p = (cAt l (i - 1)).p) := by
 obtain ⟨h1, _, h3⟩ := (okAt_iff l i).1 ((rightL_iff l).1 h i hi)
 exact ⟨h1, h3⟩
theorem tab_wAt (n : Nat) (f : Nat → Cel) (i : Nat) (h : i < n) : wAt (tab n f) i = (f i).w := by rw [wAt_in _ _ (by rw [tab_len]; exact h), tab_cAt n f i h]
theorem right_put {l : List Cel} {a : Int} {c : Cel} (h : rightL l = true) : rightL (putC l a c) = true := by
 unfold putC
 split
 ·rename_i hok
  unfold putOk at hok
  rw [decide_eq_true_iff] at hok
  obtain ⟨hc, hw, ha, hl⟩ := hok
  have hw2 : c.w = 1 ∨ c.w = 2 := by rcases right_w hc with q | q | q; exact absurd q hw; exact .inl q; exact .inr q
  refine right_of_fine ?_
  unfold putTab; intro i hi
  rw [tab_len] at hi
  rw [tab_cAt _ _ _ hi, tab_wAt _ _ _ hi]
  refine ⟨?_, fun h0 hi0 h2 => ?_⟩
  ·split
   ·exact hc
   ·split
    ·exact right_rest hc
    ·exact (fine_of_right h hi).1
  ·have hi1 : i - 1 < l.length := by omega
   rw [tab_wAt _ _ _ hi1] at h2
   rw [tab_cAt _ _ _ hi1]
   generalize a.toNat = k at *
   by_cases e1 : i = k
   ·rw [if_pos e1] at h0; exact absurd h0 hw
   ·rw [if_neg e1] at h0 ⊢
    by_cases e2 : i = k + 1 ∧ c.w = 2
    ·rw [if_pos e2, if_pos (by omega)]; rfl
    ·rw [if_neg e2] at h0 ⊢
     by_cases e3 : i - 1 = k
     ·rw [if_pos e3] at h2; omega
     ·rw [if_neg e3] at h2 ⊢
      by_cases e4 : i - 1 = k + 1 ∧ c.w = 2
      ·rw [if_pos e4] at h2; cases h2
      ·rw [if_neg e4]
       refine (fine_of_right h hi).2 ?_
       rw [wAt_in l i hi]; exact h0
 ·exact h
theorem right_erase {l : List Cel} {x y : Int} {p : Pn} (h : rightL l = true) (hp : rightN p = true) : rightL (eraseC l x y p) = true := by
 refine right_of_fine ?_
 unfold eraseTab; intro i hi
 rw [tab_len] at hi
 rw [tab_cAt _ _ _ hi, tab_wAt _ _ _ hi]
 refine ⟨?_, fun h0 hi0 h2 => ?_⟩
 ·split
  ·exact right_blank hp
  ·exact (fine_of_right h hi).1
 ·have hi1 : i - 1 < l.length := by omega
  rw [tab_wAt _ _ _ hi1] at h2
  rw [tab_cAt _ _ _ hi1]
  split at h0
  ·cases h0
  ·rename_i e1
   split at h2
   ·cases h2
   ·rename_i e2
    rw [if_neg e1, if_neg e2]
    refine (fine_of_right h hi).2 ?_
    rw [wAt_in l i hi]; exact h0
theorem right_fit {l : List Cel} {x : Int} (h : rightL l = true) : rightL (fitC l x) = true := by
 refine right_of_fine ?_
 unfold fitTab; intro i hi
 rw [tab_len] at hi
 rw [tab_cAt _ _ _ hi, tab_wAt _ _ _ hi]
 refine ⟨?_, fun h0 hi0 h2 => ?_⟩
 ·split
  ·rename_i q; exact (fine_of_right h q).1
  ·exact right_blank (by decide)
 ·have hi1 : i - 1 < lenN x := by omega
  rw [tab_wAt _ _ _ hi1] at h2
  rw [tab_cAt _ _ _ hi1]
  split at h0
  ·rename_i e1
   rw [if_pos e1, if_pos (by omega)]
   refine (fine_of_right h e1).2 ?_
   rw [wAt_in l i e1]; exact h0
  ·cases h0
theorem mark_same (c : Cel) (r : Int) : (markC c r).1.w = c.w ∧ (markC c r).1.p = c.p := by
 unfold markC
 split
 ·split
  ·exact ⟨rfl, rfl⟩
  ·split
   ·exact ⟨rfl, rfl⟩
   ·exact ⟨rfl, rfl⟩
 ·exact ⟨rfl, rfl⟩
theorem right_alike {l l' : List Cel} (hl : l'.length = l.length) (h : ∀ i, i < l.length → (cAt l' i).w = (cAt l i).w ∧ (cAt l' i).p = (cAt l i).p ∧ (rightC (cAt l i) = true → rightC (cAt l' i) = true)) (hr : rightL l = true) : rightL l' = true := by
 have hw : ∀ i, wAt l' i = wAt l i := by
  intro i
  by_cases hi : i < l.length
  ·rw [wAt_in l' i (by omega), wAt_in l i hi]; exact (h i hi).1
  ·rw [wAt_out l' i (by omega), wAt_out l i (by omega)]
 rw [rightL_iff]
 intro i hi
 rw [hl] at hi
 obtain ⟨h1, h2, h3⟩ := (okAt_iff l i).1 ((rightL_iff l).1 hr i hi)
 rw [okAt_iff]
 refine ⟨(h i hi).2.2 h1, by rw [alone_congr hw]; exact h2, fun h0 => ?_⟩
 rw [hw] at h0
 obtain ⟨h5, h6⟩ := alone_0 h0 h2
 rw [(h i hi).2.1, (h (i - 1) (by omega)).2.1]
 exact h3 h0
theorem right_lmark {l : List Cel} {a r : Int} (h : rightL l = true) : rightL (lmarkC l a r).1 = true := by
 unfold lmarkC
 split
 ·simp only
  refine right_alike (by simp) (fun i hi => ?_) h
  rw [set_tab, tab_cAt _ _ _ hi]
  split
  ·rename_i e
   rw [e]
   exact ⟨(mark_same _ _).1, (mark_same _ _).2, right_mark⟩
  ·exact ⟨rfl, rfl, fun q => q⟩
 ·exact h
structure Gd where
 ls : List (List Cel)
 row : Nat
 col : Nat
def lAt (ls : List (List Cel)) (i : Nat) : List Cel := ls.getD i []
def gtab (n : Nat) (f : Nat → List Cel) : List (List Cel) := (List.range n).map f
theorem gtab_len (n : Nat) (f : Nat → List Cel) : (gtab n f).length = n := by simp [gtab]
theorem gtab_get (n : Nat) (f : Nat → List Cel) (i : Nat) (h : i < n) : (gtab n f)[i]? = some (f i) := by simp [gtab, h]
theorem gtab_no (n : Nat) (f : Nat → List Cel) (i : Nat) (h : n ≤ i) : (gtab n f)[i]? = none := by simp [gtab, h]
theorem gtab_lAt (n : Nat) (f : Nat → List Cel) (i : Nat) (h : i < n) : lAt (gtab n f) i = f i := by
 unfold lAt; rw [List.getD_eq_getElem?_getD, gtab_get n f i h]; rfl
theorem gtab_snoc (n : Nat) (f : Nat → List Cel) : gtab (n + 1) f = gtab n f ++ [f n] := by simp [gtab, List.range_succ]
theorem get_lAt (l : List (List Cel)) (i : Nat) (h : i < l.length) : l[i]? = some (lAt l i) := by
 unfold lAt; rw [List.getD_eq_getElem?_getD, List.getElem?_eq_getElem h]; rfl
theorem gtab_self (l : List (List Cel)) : gtab l.length (lAt l) = l := by
 apply List.ext_getElem?
 intro i
 by_cases h : i < l.length
 ·rw [gtab_get _ _ _ h, get_lAt l i h]
 ·rw [gtab_no _ _ _ (by omega), List.getElem?_eq_none (by omega)]
theorem gtab_eq {n : Nat} {f g : Nat → List Cel} (h : ∀ i, i < n → f i = g i) : gtab n f = gtab n g := by
 apply List.ext_getElem?
 intro i
 by_cases hi : i < n
 ·rw [gtab_get _ _ _ hi, gtab_get _ _ _ hi, h i hi]
 ·rw [gtab_no _ _ _ (by omega), gtab_no _ _ _ (by omega)]
theorem gtab_is {l : List (List Cel)} {n : Nat} {f : Nat → List Cel} (hn : l.length = n) (h : ∀ i, i < n → lAt l i = f i) : l = gtab n f := by
 subst hn; rw [← gtab_eq h, gtab_self]
theorem set_lAt (l : List (List Cel)) (r i : Nat) (x : List Cel) (h : i < l.length) : lAt (l.set r x) i = if i = r then x else lAt l i := by
 unfold lAt
 rw [List.getD_eq_getElem?_getD, List.getElem?_set]
 by_cases q : r = i
 ·subst q; simp [h]
 ·rw [if_neg q, if_neg (Ne.symm q), List.getD_eq_getElem?_getD]
theorem set_same (l : List (List Cel)) (r : Nat) : l.set r (lAt l r) = l := by
 apply List.ext_getElem?
 intro i
 rw [List.getElem?_set]
 by_cases h : r = i
 ·subst h
  by_cases q : r < l.length
  ·rw [if_pos rfl, if_pos q, get_lAt l r q]
  ·simp [q]
 ·simp [h]
theorem set_gtab (l : List (List Cel)) (r : Nat) (x : List Cel) : l.set r x = gtab l.length (fun i => if i = r then x else lAt l i) := by
 refine gtab_is (by simp) fun i hi => set_lAt l r i x hi
def hasG (n : Nat) (r : Int) : Prop := 0 ≤ r ∧ r < (n : Int)
instance (n : Nat) (r : Int) : Decidable (hasG n r) := by unfold hasG; infer_instance
def nearN (x : Int) (n : Nat) : Nat := (min (max x 0) ((n : Int) - 1)).toNat
theorem nearN_lt (x : Int) (n : Nat) (h : 1 ≤ n) : nearN x n < n := by unfold nearN; omega
theorem nearN_self (k n : Nat) (h : k < n) : nearN (k : Int) n = k := by unfold nearN; omega
def sizeN (r c : Int) : Prop := (1 ≤ r ∧ r ≤ 512) ∧ (1 ≤ c ∧ c ≤ 512)
instance (r c : Int) : Decidable (sizeN r c) := by unfold sizeN; infer_instance
def newG (R C : Nat) : Gd := ⟨gtab R (fun _ => newC (C : Int)), 0, 0⟩
def putG (g : Gd) (r c : Int) (x : Cel) : Gd := if hasG g.ls.length r then { g with ls := g.ls.set r.toNat (putC (lAt g.ls r.toNat) c x) } else g
def putGOk (g : Gd) (r c : Int) (x : Cel) : Bool := decide (hasG g.ls.length r) && putOk (lAt g.ls r.toNat) c x
def markG (g : Gd) (r c m : Int) : Gd := if hasG g.ls.length r then { g with ls := g.ls.set r.toNat (lmarkC (lAt g.ls r.toNat) c m).1 } else g
def markGOk (g : Gd) (r c m : Int) : Bool := decide (hasG g.ls.length r) && (lmarkC (lAt g.ls r.toNat) c m).2
def eraseG (g : Gd) (r x y : Int) (p : Pn) : Gd := if hasG g.ls.length r ∧ rightN p = true then { g with ls := g.ls.set r.toNat (eraseC (lAt g.ls r.toNat) x y p) } else g
def layOk (g : Gd) (r : Int) (l : List Cel) (C : Nat) : Bool := decide (hasG g.ls.length r) && (decide (l.length = C) && rightL l)
def layG (g : Gd) (r : Int) (l : List Cel) (C : Nat) : Gd := if layOk g r l C = true then { g with ls := g.ls.set r.toNat l } else g
def moveG (g : Gd) (r c : Int) (C : Nat) : Gd := { g with row := nearN r g.ls.length, col := nearN c C }
def clampI (n : Int) (R : Nat) : Int := min (max n (-(R : Int))) (R : Int)
def scrollAt (ls : List (List Cel)) (C : Nat) (n : Int) (p : Pn) (i : Nat) : List Cel :=
 if 0 ≤ (i : Int) + n ∧ (i : Int) + n < (ls.length : Int) then lAt ls ((i : Int) + n).toNat else tab C (fun _ => blankC p)
def scrollG (g : Gd) (C : Nat) (n : Int) (p : Pn) : Gd := if rightN p = true then { g with ls := gtab g.ls.length (scrollAt g.ls C (clampI n g.ls.length) p) } else g
def fitAtG (ls : List (List Cel)) (C : Nat) (i : Nat) : List Cel := if i < ls.length then fitC (lAt ls i) (C : Int) else newC (C : Int)
def fitG (g : Gd) (R C : Nat) : Gd := ⟨gtab R (fitAtG g.ls C), nearN (g.row : Int) R, nearN (g.col : Int) C⟩
structure GOk (g : Gd) (R C : Nat) : Prop where
 r1 : 1 ≤ R
 r2 : R ≤ 512
 c1 : 1 ≤ C
 c2 : C ≤ 512
 len : g.ls.length = R
 each : ∀ i, i < R → (lAt g.ls i).length = C ∧ rightL (lAt g.ls i) = true ∧ LB (lAt g.ls i)
 row : g.row < R
 col : g.col < C
theorem lenN_nat (C : Nat) (h : C ≤ 512) : lenN (C : Int) = C := by unfold lenN; omega
theorem newC_len (C : Nat) (h : C ≤ 512) : (newC (C : Int)).length = C := by rw [newC, tab_len, lenN_nat C h]
theorem newC_is (C : Nat) (h : C ≤ 512) : newC (C : Int) = tab C (fun _ => blankC zeroP) := by unfold newC; rw [lenN_nat C h]
theorem right_blanks (C : Nat) {p : Pn} (hp : rightN p = true) : rightL (tab C (fun _ => blankC p)) = true := by
 rw [rightL_iff]
 intro i hi
 rw [tab_len] at hi
 have hw : wAt (tab C fun _ => blankC p) i = 1 := tab_wAt _ _ _ hi
 rw [okAt_iff, tab_cAt _ _ _ hi]
 exact ⟨right_blank hp, alone_1 hw, fun h => by omega⟩
theorem right_new (C : Nat) (h : C ≤ 512) : rightL (newC (C : Int)) = true := by rw [newC_is C h]; exact right_blanks C (by decide)
theorem erase_all (l : List Cel) (C : Nat) (hl : l.length = C) (p : Pn) : eraseC l 0 (C : Int) p = tab C (fun _ => blankC p) := by
 have e : eraseTab l 0 (C : Int) p = tab C (fun _ => blankC p) := by
  unfold eraseTab
  rw [hl]
  exact tab_eq fun i hi => by rw [if_pos (by omega)]
 unfold eraseC
 rw [e]
 refine mend_stays fun i hi => ?_
 rw [tab_len] at hi
 exact alone_1 (tab_wAt _ _ _ hi)
theorem fit_nil (C : Nat) : fitC [] (C : Int) = newC (C : Int) := by
 unfold fitC fitTab newC
 have e : tab (lenN (C : Int)) (fun i => if i < ([] : List Cel).length then cAt [] i else blankC zeroP) = tab (lenN (C : Int)) (fun _ => blankC zeroP) := tab_eq fun i hi => by rw [if_neg (by simp)]
 rw [e]
 refine mend_stays fun i hi => ?_
 rw [tab_len] at hi
 exact alone_1 (tab_wAt _ _ _ hi)
theorem fitAtG_is (ls : List (List Cel)) (C i : Nat) : fitAtG ls C i = fitC (lAt ls i) (C : Int) := by
 unfold fitAtG
 split
 ·rfl
 ·rename_i h
  rw [show lAt ls i = [] by unfold lAt; rw [List.getD_eq_getElem?_getD, List.getElem?_eq_none (by omega)]; rfl, fit_nil]
theorem mark_no (c : Cel) (r : Int) (h : (markC c r).2 = false) : (markC c r).1 = c := by
 unfold markC at *
 split
 ·rename_i q
  rw [if_pos q] at h
  split
  ·rename_i q2; rw [if_pos q2] at h; cases h
  ·rename_i q2
   rw [if_neg q2] at h
   split
   ·rename_i q3; rw [if_pos q3] at h; cases h
   ·rfl
 ·rfl
theorem set_self (l : List Cel) (k : Nat) : l.set k (cAt l k) = l := by
 rw [set_tab]
 conv => rhs; rw [← tab_self l]
 refine tab_eq fun i hi => ?_
 split
 ·rename_i h; rw [h]
 ·rfl
theorem markL_no (l : List Cel) (a r : Int) (h : (lmarkC l a r).2 = false) : (lmarkC l a r).1 = l := by
 unfold lmarkC at *
 split
 ·rename_i q
  rw [if_pos q] at h
  simp only at h ⊢
  rw [mark_no _ _ h, set_self]
 ·rfl
theorem putL_no (l : List Cel) (a : Int) (c : Cel) (h : putOk l a c = false) : putC l a c = l := by unfold putC; rw [h]; rfl
section
variable {g : Gd} {R C : Nat}
theorem GOk.new (r1 : 1 ≤ R) (r2 : R ≤ 512) (c1 : 1 ≤ C) (c2 : C ≤ 512) : GOk (newG R C) R C :=
 ⟨r1, r2, c1, c2, gtab_len _ _, fun i hi => by
  have e : lAt (newG R C).ls i = newC (C : Int) := gtab_lAt _ _ _ hi
  rw [e]
  exact ⟨newC_len C c2, right_new C c2, LB_new _⟩, by show 0 < R; omega, by show 0 < C; omega⟩
theorem GOk.set (h : GOk g R C) (r : Nat) (l : List Cel) (hl : l.length = C ∧ rightL l = true ∧ LB l) : GOk { g with ls := g.ls.set r l } R C :=
 ⟨h.r1, h.r2, h.c1, h.c2, by rw [List.length_set]; exact h.len, fun i hi => by
  show (lAt (g.ls.set r l) i).length = C ∧ rightL (lAt (g.ls.set r l) i) = true ∧ LB (lAt (g.ls.set r l) i)
  rw [set_lAt _ _ _ _ (by rw [h.len]; exact hi)]
  split
  ·exact hl
  ·exact h.each i hi, h.row, h.col⟩
theorem GOk.at (h : GOk g R C) {r : Int} (hr : hasG g.ls.length r) : r.toNat < R := by have := h.len; unfold hasG at hr; omega
theorem GOk.put (h : GOk g R C) (r c : Int) (x : Cel) (hx : CelB x) : GOk (putG g r c x) R C := by
 unfold putG
 split
 ·rename_i hr
  obtain ⟨h1, h2, h3⟩ := h.each _ (h.at hr)
  exact h.set _ _ ⟨by rw [put_len, h1], right_put h2, LB_put h3 hx⟩
 ·exact h
theorem GOk.mark (h : GOk g R C) (r c m : Int) (hm : R32 m) : GOk (markG g r c m) R C := by
 unfold markG
 split
 ·rename_i hr
  obtain ⟨h1, h2, h3⟩ := h.each _ (h.at hr)
  exact h.set _ _ ⟨by rw [lmark_len, h1], right_lmark h2, LB_mark h3 hm⟩
 ·exact h
theorem GOk.erase (h : GOk g R C) (r x y : Int) (p : Pn) : GOk (eraseG g r x y p) R C := by
 unfold eraseG
 split
 ·rename_i hr
  obtain ⟨h1, h2, h3⟩ := h.each _ (h.at hr.1)
  exact h.set _ _ ⟨by rw [erase_len, h1], right_erase h2 hr.2, LB_erase h3⟩
 ·exact h
theorem GOk.lay (h : GOk g R C) (r : Int) (l : List Cel) (hl : LB l) : GOk (layG g r l C) R C := by
 unfold layG
 split
 ·rename_i hr
  unfold layOk at hr
  simp only [Bool.and_eq_true, decide_eq_true_iff] at hr
  exact h.set _ _ ⟨hr.2.1, hr.2.2, hl⟩
 ·exact h
theorem GOk.move (h : GOk g R C) (r c : Int) : GOk (moveG g r c C) R C :=
 ⟨h.r1, h.r2, h.c1, h.c2, h.len, h.each, by show nearN r g.ls.length < R; rw [h.len]; exact nearN_lt _ _ h.r1, nearN_lt _ _ h.c1⟩
theorem GOk.scroll (h : GOk g R C) (n : Int) (p : Pn) : GOk (scrollG g C n p) R C := by
 unfold scrollG
 split
 ·rename_i hp
  refine ⟨h.r1, h.r2, h.c1, h.c2, by rw [gtab_len]; exact h.len, fun i hi => ?_, h.row, h.col⟩
  have e : lAt (gtab g.ls.length (scrollAt g.ls C (clampI n g.ls.length) p)) i = scrollAt g.ls C (clampI n g.ls.length) p i := gtab_lAt _ _ _ (by rw [h.len]; exact hi)
  show (lAt (gtab g.ls.length (scrollAt g.ls C (clampI n g.ls.length) p)) i).length = C ∧ rightL (lAt (gtab g.ls.length (scrollAt g.ls C (clampI n g.ls.length) p)) i) = true ∧ LB (lAt (gtab g.ls.length (scrollAt g.ls C (clampI n g.ls.length) p)) i)
  rw [e]
  unfold scrollAt
  split
  ·rename_i hq
   exact h.each _ (by have := h.len; omega)
  ·exact ⟨tab_len _ _, right_blanks C hp, LB_tab fun _ _ => celB_blank _⟩
 ·exact h
theorem GOk.fit (h : GOk g R C) {R' C' : Nat} (r1 : 1 ≤ R') (r2 : R' ≤ 512) (c1 : 1 ≤ C') (c2 : C' ≤ 512) : GOk (fitG g R' C') R' C' := by
 refine ⟨r1, r2, c1, c2, gtab_len _ _, fun i hi => ?_, nearN_lt _ _ r1, nearN_lt _ _ c1⟩
 have e : lAt (fitG g R' C').ls i = fitAtG g.ls C' i := gtab_lAt _ _ _ hi
 rw [e]
 unfold fitAtG
 split
 ·rename_i q
  obtain ⟨h1, h2, h3⟩ := h.each i (by rw [← h.len]; exact q)
  exact ⟨by rw [fit_len, lenN_nat _ c2], right_fit h2, LB_fit h3⟩
 ·exact ⟨newC_len _ c2, right_new _ c2, LB_new _⟩
end
theorem isSc_iff (r : Int) : isSc r = true ↔ 0 ≤ r ∧ r ≤ 1114111 ∧ (r < 55296 ∨ 57343 < r) := by simp [isSc]
def fix (r : Int) : Int := if isSc r = true then r else 65533
theorem fix_sc (r : Int) : isSc (fix r) = true := by unfold fix; split; assumption; decide
theorem fix_of (r : Int) (h : isSc r = true) : fix r = r := by unfold fix; rw [if_pos h]
def encS (r : Int) : List Int :=
 if r < 128 then [r] else if r < 2048 then [192 + r / 64, 128 + r % 64]
 else if r < 65536 then [224 + r / 4096, 128 + r / 64 % 64, 128 + r % 64]
 else [240 + r / 262144, 128 + r / 4096 % 64, 128 + r / 64 % 64, 128 + r % 64]
theorem encS1 {r : Int} (h : r < 128) : encS r = [r] := by unfold encS; rw [if_pos h]
theorem encS2 {r : Int} (h : ¬ r < 128) (h2 : r < 2048) : encS r = [192 + r / 64, 128 + r % 64] := by unfold encS; rw [if_neg h, if_pos h2]
theorem encS3 {r : Int} (h : ¬ r < 2048) (h2 : r < 65536) : encS r = [224 + r / 4096, 128 + r / 64 % 64, 128 + r % 64] := by unfold encS; rw [if_neg (by omega), if_neg h, if_pos h2]
theorem encS4 {r : Int} (h : ¬ r < 65536) : encS r = [240 + r / 262144, 128 + r / 4096 % 64, 128 + r / 64 % 64, 128 + r % 64] := by unfold encS; rw [if_neg (by omega), if_neg (by omega), if_neg h]
def encA : List Int → List Int
 | [] => []
 | r :: l => encS (fix r) ++ encA l
theorem encA_append (a b : List Int) : encA (a ++ b) = encA a ++ encA b := by induction a with
 | nil => rfl
 | cons r l ih => simp [encA, ih]
theorem encA_one (r : Int) : encA [r] = encS (fix r) := by simp [encA]
theorem encS_len (r : Int) : 1 ≤ (encS r).length ∧ (encS r).length ≤ 4 := by
 unfold encS; split; simp; split; simp; split <;> simp
theorem encA_len (l : List Int) : (encA l).length ≤ 4 * l.length := by induction l with
 | nil => simp [encA]
 | cons r l ih => have := encS_len (fix r); simp [encA]; omega
def sz (c : Int) : Nat := if c ≤ 127 then 1 else if c < 194 then 0 else if c < 224 then 2 else if c < 240 then 3 else if c ≤ 244 then 4 else 0
def lo2 (c : Int) : Int := if c = 224 then 160 else if c = 240 then 144 else 128
def hi2 (c : Int) : Int := if c = 237 then 159 else if c = 244 then 143 else 191
theorem sz_le (c : Int) : sz c ≤ 4 := by unfold sz; split; omega; split; omega; split; omega; split; omega; split <;> omega
theorem sz1 {c : Int} (h : c ≤ 127) : sz c = 1 := by unfold sz; rw [if_pos h]
theorem sz0a {c : Int} (h : ¬ c ≤ 127) (h2 : c < 194) : sz c = 0 := by unfold sz; rw [if_neg h, if_pos h2]
theorem sz2 {c : Int} (h : ¬ c < 194) (h2 : c < 224) : sz c = 2 := by unfold sz; rw [if_neg (by omega), if_neg h, if_pos h2]
theorem sz3 {c : Int} (h : ¬ c < 224) (h2 : c < 240) : sz c = 3 := by unfold sz; rw [if_neg (by omega), if_neg (by omega), if_neg h, if_pos h2]
theorem sz4 {c : Int} (h : ¬ c < 240) (h2 : c ≤ 244) : sz c = 4 := by unfold sz; rw [if_neg (by omega), if_neg (by omega), if_neg (by omega), if_neg h, if_pos h2]
theorem sz0b {c : Int} (h : ¬ c ≤ 244) : sz c = 0 := by unfold sz; rw [if_neg (by omega), if_neg (by omega), if_neg (by omega), if_neg (by omega), if_neg h]
theorem sz_inv (c : Int) : (c ≤ 127 ∧ sz c = 1) ∨ (127 < c ∧ c < 194 ∧ sz c = 0) ∨ (194 ≤ c ∧ c < 224 ∧ sz c = 2) ∨ (224 ≤ c ∧ c < 240 ∧ sz c = 3) ∨ (240 ≤ c ∧ c ≤ 244 ∧ sz c = 4) ∨ (244 < c ∧ sz c = 0) := by
 by_cases h1 : c ≤ 127
 ·exact .inl ⟨h1, sz1 h1⟩
 by_cases h2 : c < 194
 ·exact .inr (.inl ⟨by omega, h2, sz0a h1 h2⟩)
 by_cases h3 : c < 224
 ·exact .inr (.inr (.inl ⟨by omega, h3, sz2 h2 h3⟩))
 by_cases h4 : c < 240
 ·exact .inr (.inr (.inr (.inl ⟨by omega, h4, sz3 h3 h4⟩)))
 by_cases h5 : c ≤ 244
 ·exact .inr (.inr (.inr (.inr (.inl ⟨by omega, h5, sz4 h4 h5⟩))))
 ·exact .inr (.inr (.inr (.inr (.inr ⟨by omega, sz0b h5⟩))))
theorem lo2_inv (c : Int) : (c = 224 ∧ lo2 c = 160) ∨ (c = 240 ∧ lo2 c = 144) ∨ (c ≠ 224 ∧ c ≠ 240 ∧ lo2 c = 128) := by
 unfold lo2; split; omega; split <;> omega
theorem hi2_inv (c : Int) : (c = 237 ∧ hi2 c = 159) ∨ (c = 244 ∧ hi2 c = 143) ∨ (c ≠ 237 ∧ c ≠ 244 ∧ hi2 c = 191) := by
 unfold hi2; split; omega; split <;> omega
def run (lo hi : Int) : Nat → List Int → Nat
 | 0, _ => 0
 | _, [] => 0
 | k + 1, c :: r => if lo ≤ c ∧ c ≤ hi then 1 + run 128 191 k r else 0
def fit : List Int → Nat
 | [] => 0
 | c :: r => if sz c = 0 then 0 else 1 + run (lo2 c) (hi2 c) (sz c - 1) r
theorem run_nil (lo hi : Int) (k : Nat) : run lo hi k [] = 0 := by cases k <;> rfl
theorem run_zero (lo hi : Int) (r : List Int) : run lo hi 0 r = 0 := rfl
theorem run_yes {lo hi : Int} {k : Nat} {c : Int} {r : List Int} (h : lo ≤ c ∧ c ≤ hi) : run lo hi (k + 1) (c :: r) = 1 + run 128 191 k r := by rw [run, if_pos h]
theorem run_no {lo hi : Int} {k : Nat} {c : Int} {r : List Int} (h : ¬ (lo ≤ c ∧ c ≤ hi)) : run lo hi (k + 1) (c :: r) = 0 := by rw [run, if_neg h]
theorem run_le (p : List Int) : ∀ lo hi k, run lo hi k p ≤ p.length ∧ run lo hi k p ≤ k := by
 induction p with
 | nil => intro lo hi k; rw [run_nil]; omega
 | cons c r ih =>
  intro lo hi k
  cases k with
  | zero => rw [run_zero]; omega
  | succ k =>
   by_cases h : lo ≤ c ∧ c ≤ hi
   ·rw [run_yes h]; have := ih 128 191 k; simp; omega
   ·rw [run_no h]; simp
theorem run_append (p t : List Int) : ∀ lo hi k, (run lo hi k p < p.length → run lo hi k (p ++ t) = run lo hi k p) ∧ run lo hi k p ≤ run lo hi k (p ++ t) := by
 induction p with
 | nil => intro lo hi k; rw [run_nil]; simp
 | cons c r ih =>
  intro lo hi k
  cases k with
  | zero => rw [run_zero]; simp [run_zero]
  | succ k =>
   rw [List.cons_append]
   by_cases h : lo ≤ c ∧ c ≤ hi
   ·rw [run_yes h, run_yes h]
    have := ih 128 191 k
    refine ⟨fun hl => ?_, by omega⟩
    rw [this.1 (by simp at hl; omega)]
   ·rw [run_no h, run_no h]; simp
theorem fit_zero {c : Int} {r : List Int} (h : sz c = 0) : fit (c :: r) = 0 := by rw [fit, if_pos h]
theorem fit_pos {c : Int} {r : List Int} (h : ¬ sz c = 0) : fit (c :: r) = 1 + run (lo2 c) (hi2 c) (sz c - 1) r := by rw [fit, if_neg h]
theorem fit_le (p : List Int) : fit p ≤ p.length := by
 cases p with
 | nil => simp [fit]
 | cons c r =>
  by_cases h : sz c = 0
  ·rw [fit_zero h]; omega
  ·rw [fit_pos h]; have := run_le r (lo2 c) (hi2 c) (sz c - 1); simp; omega
theorem fit_sz (c : Int) (r : List Int) : fit (c :: r) ≤ sz c := by
 by_cases h : sz c = 0
 ·rw [fit_zero h]; omega
 ·rw [fit_pos h]; have := run_le r (lo2 c) (hi2 c) (sz c - 1); omega
theorem fit_append (p t : List Int) : (fit p < p.length → fit (p ++ t) = fit p) ∧ fit p ≤ fit (p ++ t) := by
 cases p with
 | nil => simp [fit]
 | cons c r =>
  rw [List.cons_append]
  by_cases h : sz c = 0
  ·rw [fit_zero h, fit_zero h]; simp
  ·rw [fit_pos h, fit_pos h]
   have := run_append r t (lo2 c) (hi2 c) (sz c - 1)
   refine ⟨fun hl => ?_, by omega⟩
   rw [this.1 (by simp at hl; omega)]
theorem fit_take (b : List Int) (k : Nat) (hk : k ≤ b.length) : (fit (b.take k) = k ↔ k ≤ fit b) := by
 have h := fit_append (b.take k) (b.drop k)
 rw [List.take_append_drop] at h
 have hl := fit_le (b.take k)
 have hx : (b.take k).length = k := by rw [List.length_take]; omega
 rw [hx] at h hl
 constructor
 ·intro e; omega
 ·intro e
  rcases Nat.lt_or_ge (fit (b.take k)) k with h1 | h1
  ·have := h.1 h1; omega
  ·omega
def joinV : List Int → Int
 | [a] => a
 | [a, b] => (a - 192) * 64 + b - 128
 | [a, b, c] => (a - 224) * 4096 + (b - 128) * 64 + c - 128
 | [a, b, c, d] => (a - 240) * 262144 + (b - 128) * 4096 + (c - 128) * 64 + d - 128
 | _ => 0
inductive Full : List Int → Prop
 | one {a} (h0 : 0 ≤ a) (h : a ≤ 127) : Full [a]
 | two {a b} (h : 194 ≤ a ∧ a < 224) (h1 : 128 ≤ b ∧ b ≤ 191) : Full [a, b]
 | three {a b c} (h : 224 ≤ a ∧ a < 240) (h1 : lo2 a ≤ b ∧ b ≤ hi2 a) (h2 : 128 ≤ c ∧ c ≤ 191) : Full [a, b, c]
 | four {a b c d} (h : 240 ≤ a ∧ a ≤ 244) (h1 : lo2 a ≤ b ∧ b ≤ hi2 a) (h2 : 128 ≤ c ∧ c ≤ 191) (h3 : 128 ≤ d ∧ d ≤ 191) : Full [a, b, c, d]
theorem full_enc (r : Int) (h : isSc r = true) : Full (encS r) := by
 rw [isSc_iff] at h
 by_cases h1 : r < 128
 ·rw [encS1 h1]; exact .one (by omega) (by omega)
 by_cases h2 : r < 2048
 ·rw [encS2 h1 h2]; exact .two (by omega) (by omega)
 by_cases h3 : r < 65536
 ·rw [encS3 h2 h3]
  have := lo2_inv (224 + r / 4096)
  have := hi2_inv (224 + r / 4096)
  exact .three (by omega) (by omega) (by omega)
 ·rw [encS4 h3]
  have := lo2_inv (240 + r / 262144)
  have := hi2_inv (240 + r / 262144)
  exact .four (by omega) (by omega) (by omega) (by omega)
theorem full_join {p : List Int} (h : Full p) : isSc (joinV p) = true ∧ encS (joinV p) = p := by
 rw [isSc_iff]
 cases h with
 | one h0 h => refine ⟨by simp only [joinV]; omega, ?_⟩; simp only [joinV]; rw [encS1 (by omega)]
 | two h h1 =>
  refine ⟨by simp only [joinV]; omega, ?_⟩
  simp only [joinV]; rw [encS2 (by omega) (by omega)]; congr 1
  ·omega
  ·congr 1; omega
 | @three a b c h h1 h2 =>
  have := lo2_inv a
  have := hi2_inv a
  refine ⟨by simp only [joinV]; omega, ?_⟩
  simp only [joinV]; rw [encS3 (by omega) (by omega)]; congr 1
  ·omega
  ·congr 1
   ·omega
   ·congr 1; omega
 | @four a b c d h h1 h2 h3 =>
  have := lo2_inv a
  have := hi2_inv a
  refine ⟨by simp only [joinV]; omega, ?_⟩
  simp only [joinV]; rw [encS4 (by omega)]; congr 1
  ·omega
  ·congr 1
   ·omega
   ·congr 1
    ·omega
    ·congr 1; omega
theorem full_fit {p : List Int} (h : Full p) : ∃ c r, p = c :: r ∧ sz c = p.length ∧ fit p = p.length := by
 cases h with
 | one h0 h => exact ⟨_, _, rfl, sz1 h, by rw [fit, sz1 h]; rfl⟩
 | @two a b h h1 =>
  have e := sz2 (c := a) (by omega) (by omega)
  have := lo2_inv a
  have := hi2_inv a
  refine ⟨_, _, rfl, e, ?_⟩
  rw [fit, e]; simp only [Nat.reduceSub, Nat.reduceEqDiff, if_false]
  rw [run_yes (by omega), run_zero]; rfl
 | @three a b c h h1 h2 =>
  have e := sz3 (c := a) (by omega) (by omega)
  refine ⟨_, _, rfl, e, ?_⟩
  rw [fit, e]; simp only [Nat.reduceSub, Nat.reduceEqDiff, if_false]
  rw [run_yes h1, run_yes h2, run_zero]; rfl
 | @four a b c d h h1 h2 h3 =>
  have e := sz4 (c := a) (by omega) (by omega)
  refine ⟨_, _, rfl, e, ?_⟩
  rw [fit, e]; simp only [Nat.reduceSub, Nat.reduceEqDiff, if_false]
  rw [run_yes h1, run_yes h2, run_yes h3, run_zero]; rfl
theorem run_ext (p : List Int) : ∀ lo hi k, lo ≤ hi → run lo hi k p = p.length → p.length < k → ∃ c, run lo hi k (p ++ [c]) = p.length + 1 := by
 induction p with
 | nil =>
  intro lo hi k hlh _ hk
  cases k with
  | zero => simp at hk
  | succ k => exact ⟨lo, by rw [List.nil_append, run_yes ⟨by omega, hlh⟩, run_nil]; rfl⟩
 | cons c r ih =>
  intro lo hi k hlh he hk
  cases k with
  | zero => simp at hk
  | succ k =>
   by_cases h : lo ≤ c ∧ c ≤ hi
   ·rw [run_yes h] at he
    obtain ⟨d, hd⟩ := ih 128 191 k (by omega) (by simp at he; omega) (by simp at hk; omega)
    exact ⟨d, by rw [List.cons_append, run_yes h, hd]; simp; omega⟩
   ·rw [run_no h] at he; simp at he
theorem fit_ext (c : Int) (r : List Int) (h : fit (c :: r) = (c :: r).length) (hl : (c :: r).length < sz c) : ∃ d, fit (c :: (r ++ [d])) = (c :: r).length + 1 := by
 have h0 : ¬ sz c = 0 := by simp at hl; omega
 rw [fit, if_neg h0] at h
 have hlh : lo2 c ≤ hi2 c := by have := lo2_inv c; have := hi2_inv c; omega
 obtain ⟨d, hd⟩ := run_ext r (lo2 c) (hi2 c) (sz c - 1) hlh (by simp at h; omega) (by simp at hl; omega)
 exact ⟨d, by rw [fit, if_neg h0, hd]; simp; omega⟩
theorem fit_whole (n : Nat) : ∀ c r, n = sz c - (c :: r).length → fit (c :: r) = (c :: r).length → ∃ t, fit (c :: (r ++ t)) = sz c ∧ (c :: (r ++ t)).length = sz c := by
 induction n with
 | zero =>
  intro c r hn h
  have h2 := fit_sz c r
  exact ⟨[], by simp only [List.append_nil]; omega, by simp only [List.append_nil]; omega⟩
 | succ n ih =>
  intro c r hn h
  obtain ⟨d, hd⟩ := fit_ext c r h (by omega)
  obtain ⟨t, h1, h2⟩ := ih c (r ++ [d]) (by simp at hn ⊢; omega) (by rw [hd]; simp)
  exact ⟨[d] ++ t, by rw [← List.append_assoc]; exact h1, by rw [← List.append_assoc]; exact h2⟩
theorem run_inv {lo hi : Int} {k : Nat} {c : Int} {r : List Int} {n : Nat} (h : run lo hi k (c :: r) = n + 1) : (lo ≤ c ∧ c ≤ hi) ∧ run 128 191 (k - 1) r = n := by
 cases k with
 | zero => rw [run_zero] at h; omega
 | succ k =>
  by_cases hc : lo ≤ c ∧ c ≤ hi
  ·rw [run_yes hc] at h; exact ⟨hc, by simp; omega⟩
  ·rw [run_no hc] at h; omega
theorem fit_full {c : Int} {r : List Int} (h0 : 0 ≤ c) (h : fit (c :: r) = sz c) (hl : (c :: r).length = sz c) : Full (c :: r) := by
 rcases sz_inv c with ⟨h1, e⟩ | ⟨_, _, e⟩ | ⟨h1, h2, e⟩ | ⟨h1, h2, e⟩ | ⟨h1, h2, e⟩ | ⟨_, e⟩
 ·rw [e] at hl
  match r, hl with
  | [], _ => exact .one h0 h1
 ·rw [e] at hl; simp at hl
 ·rw [fit, e] at h
  rw [e] at hl
  match r, hl, h with
  | [b], _, h =>
   have := lo2_inv c
   have := hi2_inv c
   simp only [Nat.reduceSub, Nat.reduceEqDiff, if_false] at h
   obtain ⟨q, _⟩ := run_inv (n := 0) (by omega : run (lo2 c) (hi2 c) 1 [b] = 0 + 1)
   exact .two ⟨h1, h2⟩ (by omega)
 ·rw [fit, e] at h
  rw [e] at hl
  match r, hl, h with
  | [b, d], _, h =>
   simp only [Nat.reduceSub, Nat.reduceEqDiff, if_false] at h
   obtain ⟨q, h⟩ := run_inv (n := 1) (by omega : run (lo2 c) (hi2 c) 2 [b, d] = 1 + 1)
   obtain ⟨q', _⟩ := run_inv (n := 0) h
   exact .three ⟨h1, h2⟩ q q'
 ·rw [fit, e] at h
  rw [e] at hl
  match r, hl, h with
  | [b, d, f], _, h =>
   simp only [Nat.reduceSub, Nat.reduceEqDiff, if_false] at h
   obtain ⟨q, h⟩ := run_inv (n := 2) (by omega : run (lo2 c) (hi2 c) 3 [b, d, f] = 2 + 1)
   obtain ⟨q', h⟩ := run_inv (n := 1) h
   obtain ⟨q'', _⟩ := run_inv (n := 0) h
   exact .four ⟨h1, h2⟩ q q' q''
 ·rw [e] at hl; simp at hl
theorem begins_iff (c : Int) (r : List Int) (h0 : 0 ≤ c) : (∃ m, isSc m = true ∧ (c :: r) <+: encS m) ↔ fit (c :: r) = (c :: r).length := by
 constructor
 ·rintro ⟨m, hm, t, ht⟩
  obtain ⟨_, _, _, _, hf⟩ := full_fit (full_enc m hm)
  rw [← ht] at hf
  have h1 := fit_append (c :: r) t
  have h2 := fit_le (c :: r)
  rcases Nat.lt_or_ge (fit (c :: r)) (c :: r).length with h | h
  ·have := h1.1 h; rw [List.length_append] at hf; omega
  ·omega
 ·intro h
  obtain ⟨t, h1, h2⟩ := fit_whole _ c r rfl h
  obtain ⟨ha, hb⟩ := full_join (fit_full h0 h1 h2)
  exact ⟨_, ha, t, by rw [hb]; rfl⟩
def lexB : List Int → List Int → Bool
 | [], [] => false
 | [], _ :: _ => true
 | _ :: _, [] => false
 | a :: s, b :: t => if a = b then lexB s t else decide (a < b)
theorem lexB_eq (a : Int) (s t : List Int) : lexB (a :: s) (a :: t) = lexB s t := by simp [lexB]
theorem lexB_ne {a b : Int} (h : a ≠ b) (s t : List Int) : lexB (a :: s) (b :: t) = decide (a < b) := by simp [lexB, h]
theorem lexB_trans (x : List Int) : ∀ y z, lexB x y = true → lexB y z = true → lexB x z = true := by
 induction x with
 | nil =>
  intro y z h1 h2
  cases y with
  | nil => simp [lexB] at h1
  | cons b y => cases z with
   | nil => simp [lexB] at h2
   | cons c z => simp [lexB]
 | cons a x ih =>
  intro y z h1 h2
  cases y with
  | nil => simp [lexB] at h1
  | cons b y => cases z with
   | nil => simp [lexB] at h2
   | cons c z =>
    by_cases e1 : a = b
    ·subst e1
     by_cases e2 : a = c
     ·subst e2; rw [lexB_eq] at *; exact ih y z h1 h2
     ·rw [lexB_ne e2] at *; exact h2
    ·rw [lexB_ne e1] at h1
     by_cases e2 : b = c
     ·subst e2; rw [lexB_ne e1]; exact h1
     ·rw [lexB_ne e2] at h2
      simp at h1 h2
      rw [lexB_ne (by omega)]; simp; omega
theorem lexB_prefix (p : List Int) : ∀ y, p <+: y → lexB y p = false := by
 induction p with
 | nil => intro y _; cases y <;> rfl
 | cons b p ih =>
  intro y h
  obtain ⟨t, rfl⟩ := h
  rw [List.cons_append, lexB_eq]
  exact ih _ ⟨t, rfl⟩
theorem lexB_between (p : List Int) : ∀ x y, lexB x p = false → lexB x y = true → p <+: y → p <+: x := by
 induction p with
 | nil => intro x y _ _ _; exact List.nil_prefix
 | cons b p ih =>
  intro x y h1 h2 h3
  obtain ⟨t, rfl⟩ := h3
  cases x with
  | nil => simp [lexB] at h1
  | cons a x =>
   by_cases e : a = b
   ·subst e
    rw [lexB_eq] at h1
    rw [List.cons_append, lexB_eq] at h2
    obtain ⟨u, hu⟩ := ih x (p ++ t) h1 h2 ⟨t, rfl⟩
    exact ⟨u, by rw [List.cons_append, hu]⟩
   ·rw [lexB_ne e] at h1
    rw [List.cons_append, lexB_ne e] at h2
    simp at h1 h2; omega
theorem lexB_lt {a b : Int} (h : a < b) (s t : List Int) : lexB (a :: s) (b :: t) = true := by rw [lexB_ne (by omega)]; simp [h]
theorem lexB_enc (m k : Int) (h0 : 0 ≤ m) (h : m < k) (hk : k ≤ 1114111) : lexB (encS m) (encS k) = true := by
 by_cases k1 : k < 128
 ·rw [encS1 k1, encS1 (by omega)]; exact lexB_lt h _ _
 by_cases k2 : k < 2048
 ·rw [encS2 k1 k2]
  by_cases m1 : m < 128
  ·rw [encS1 m1]; exact lexB_lt (by omega) _ _
  ·rw [encS2 m1 (by omega)]
   by_cases e : 192 + m / 64 = 192 + k / 64
   ·rw [e, lexB_eq]; exact lexB_lt (by omega) _ _
   ·exact lexB_lt (by omega) _ _
 by_cases k3 : k < 65536
 ·rw [encS3 k2 k3]
  by_cases m1 : m < 128
  ·rw [encS1 m1]; exact lexB_lt (by omega) _ _
  by_cases m2 : m < 2048
  ·rw [encS2 m1 m2]; exact lexB_lt (by omega) _ _
  ·rw [encS3 m2 (by omega)]
   by_cases e : 224 + m / 4096 = 224 + k / 4096
   ·rw [e, lexB_eq]
    by_cases e : 128 + m / 64 % 64 = 128 + k / 64 % 64
    ·rw [e, lexB_eq]; exact lexB_lt (by omega) _ _
    ·exact lexB_lt (by omega) _ _
   ·exact lexB_lt (by omega) _ _
 ·rw [encS4 k3]
  by_cases m1 : m < 128
  ·rw [encS1 m1]; exact lexB_lt (by omega) _ _
  by_cases m2 : m < 2048
  ·rw [encS2 m1 m2]; exact lexB_lt (by omega) _ _
  by_cases m3 : m < 65536
  ·rw [encS3 m2 m3]; exact lexB_lt (by omega) _ _
  ·rw [encS4 m3]
   by_cases e : 240 + m / 262144 = 240 + k / 262144
   ·rw [e, lexB_eq]
    by_cases e : 128 + m / 4096 % 64 = 128 + k / 4096 % 64
    ·rw [e, lexB_eq]
     by_cases e : 128 + m / 64 % 64 = 128 + k / 64 % 64
     ·rw [e, lexB_eq]; exact lexB_lt (by omega) _ _
     ·exact lexB_lt (by omega) _ _
    ·exact lexB_lt (by omega) _ _
   ·exact lexB_lt (by omega) _ _
theorem search_end (p : List Int) (lo hi L : Int) (h0 : 0 ≤ lo) (hhi : hi ≤ 1114111) (hlo : lo ≤ L) (hL : L ≤ hi)
  (hA : ∀ x, lo ≤ x → x < L → lexB (encS x) p = true) (hB : L = hi ∨ lexB (encS L) p = false) : p <+: encS L ↔ ∃ m, lo ≤ m ∧ m ≤ hi ∧ p <+: encS m := by
 constructor
 ·intro h; exact ⟨L, hlo, hL, h⟩
 ·rintro ⟨m, h1, h2, h3⟩
  have hn := lexB_prefix p _ h3
  have hm : L ≤ m := by
   rcases Int.lt_or_le m L with h | h
   ·rw [hA m h1 h] at hn; cases hn
   ·exact h
  by_cases e : L = m
  ·rw [e]; exact h3
  ·rcases hB with h | h
   ·omega
   ·exact lexB_between p _ _ h (lexB_enc L m (by omega) (by omega) (by omega)) h3
theorem search_up (p : List Int) (lo L m : Int) (h0 : 0 ≤ lo) (hm : m ≤ 1114111) (hL : L ≤ m) (hA : ∀ x, lo ≤ x → x < L → lexB (encS x) p = true) (h : lexB (encS m) p = true) :
  ∀ x, lo ≤ x → x < m + 1 → lexB (encS x) p = true := by
 intro x h1 h2
 by_cases e : x = m
 ·rw [e]; exact h
 ·exact lexB_trans _ _ _ (lexB_enc x m (by omega) (by omega) hm) h
theorem drop_prefix (p x : List Int) : ∀ k, k ≤ p.length → k ≤ x.length → p.take k = x.take k → (p <+: x ↔ p.drop k <+: x.drop k) := by
 intro k h1 h2 h3
 constructor
 ·rintro ⟨t, rfl⟩
  rw [List.drop_append_of_le_length h1]
  exact ⟨t, rfl⟩
 ·rintro ⟨t, ht⟩
  refine ⟨t, ?_⟩
  rw [← List.take_append_drop k p, List.append_assoc, ht, h3, List.take_append_drop]
def first : List Int → Int × Nat
 | [] => (0, 0)
 | c :: r => if fit (c :: r) = 0 then (65533, 1) else if fit (c :: r) = sz c then (joinV ((c :: r).take (fit (c :: r))), fit (c :: r))
   else if fit (c :: r) = (c :: r).length then (0, 0) else (65533, fit (c :: r))
theorem first_zero {c : Int} {r : List Int} (h : fit (c :: r) = 0) : first (c :: r) = (65533, 1) := by rw [first, if_pos h]
theorem first_whole {c : Int} {r : List Int} (h : ¬ fit (c :: r) = 0) (h2 : fit (c :: r) = sz c) : first (c :: r) = (joinV ((c :: r).take (fit (c :: r))), fit (c :: r)) := by rw [first, if_neg h, if_pos h2]
theorem first_held {c : Int} {r : List Int} (h2 : ¬ fit (c :: r) = sz c) (h3 : fit (c :: r) = (c :: r).length) : first (c :: r) = (0, 0) := by
 rw [first, if_neg (by rw [h3]; simp), if_neg h2, if_pos h3]
theorem first_broken {c : Int} {r : List Int} (h : ¬ fit (c :: r) = 0) (h2 : ¬ fit (c :: r) = sz c) (h3 : ¬ fit (c :: r) = (c :: r).length) : first (c :: r) = (65533, fit (c :: r)) := by
 rw [first, if_neg h, if_neg h2, if_neg h3]
theorem first_le (b : List Int) : (first b).2 ≤ b.length := by
 cases b with
 | nil => simp [first]
 | cons c r =>
  have hl := fit_le (c :: r)
  by_cases h : fit (c :: r) = 0
  ·rw [first_zero h]; simp
  by_cases h2 : fit (c :: r) = sz c
  ·rw [first_whole h h2]; exact hl
  by_cases h3 : fit (c :: r) = (c :: r).length
  ·rw [first_held h2 h3]; simp
  ·rw [first_broken h h2 h3]; exact hl
theorem take_full {c : Int} {r : List Int} (hb : 0 ≤ c) (h : ¬ fit (c :: r) = 0) (h2 : fit (c :: r) = sz c) : Full ((c :: r).take (fit (c :: r))) ∧ ((c :: r).take (fit (c :: r))).length = sz c := by
 have hl := fit_le (c :: r)
 have ht := (fit_take (c :: r) (fit (c :: r)) hl).2 (Nat.le_refl _)
 have hlen : ((c :: r).take (fit (c :: r))).length = fit (c :: r) := by rw [List.length_take]; omega
 obtain ⟨k, hk⟩ : ∃ k, fit (c :: r) = k + 1 := ⟨fit (c :: r) - 1, by omega⟩
 rw [hk] at ht hlen ⊢
 rw [List.take_succ_cons] at ht hlen ⊢
 exact ⟨fit_full hb (by omega) (by omega), by omega⟩
theorem first_sc (b : List Int) (hb : Byte b) (h : (first b).2 ≠ 0) : isSc (first b).1 = true := by
 cases b with
 | nil => simp [first] at h
 | cons c r =>
  by_cases h1 : fit (c :: r) = 0
  ·rw [first_zero h1]; decide
  by_cases h2 : fit (c :: r) = sz c
  ·rw [first_whole h1 h2]; exact (full_join (take_full (hb c (by simp)).1 h1 h2).1).1
  by_cases h3 : fit (c :: r) = (c :: r).length
  ·rw [first_held h2 h3] at h; simp at h
  ·rw [first_broken h1 h2 h3]; show isSc 65533 = true; decide
theorem first_range (b : List Int) (hb : Byte b) : 0 ≤ (first b).1 ∧ (first b).1 ≤ 1114111 := by
 by_cases h : (first b).2 = 0
 ·cases b with
  | nil => simp [first]
  | cons c r =>
   by_cases h1 : fit (c :: r) = 0
   ·rw [first_zero h1] at h; simp at h
   by_cases h2 : fit (c :: r) = sz c
   ·rw [first_whole h1 h2] at h; simp at h; omega
   by_cases h3 : fit (c :: r) = (c :: r).length
   ·rw [first_held h2 h3]; simp
   ·rw [first_broken h1 h2 h3] at h; simp at h; omega
 ·have := (isSc_iff _).1 (first_sc b hb h); omega
theorem first_append (b t : List Int) (h : (first b).2 ≠ 0) : first (b ++ t) = first b := by
 cases b with
 | nil => simp [first] at h
 | cons c r =>
  have ha := fit_append (c :: r) t
  have hl := fit_le (c :: r)
  have hs := fit_sz c (r ++ t)
  rw [List.cons_append] at ha ⊢
  by_cases h1 : fit (c :: r) = 0
  ·have := ha.1 (by rw [h1]; simp)
   rw [first_zero h1, first_zero (by omega)]
  by_cases h2 : fit (c :: r) = sz c
  ·have e : fit (c :: (r ++ t)) = fit (c :: r) := by omega
   rw [first_whole h1 h2, first_whole (by omega) (by omega), e, ← List.cons_append, List.take_append_of_le_length hl]
  by_cases h3 : fit (c :: r) = (c :: r).length
  ·rw [first_held h2 h3] at h; simp at h
  ·have e := ha.1 (by omega)
   rw [first_broken h1 h2 h3, first_broken (by omega) (by omega) ?_, e]
   rw [e]; simp at h3 hl ⊢; omega
theorem first_held_len (b : List Int) (h : (first b).2 = 0) : b.length ≤ 3 := by
 cases b with
 | nil => simp
 | cons c r =>
  have := fit_sz c r
  have := sz_le c
  by_cases h1 : fit (c :: r) = 0
  ·rw [first_zero h1] at h; simp at h
  by_cases h2 : fit (c :: r) = sz c
  ·rw [first_whole h1 h2] at h; simp at h; omega
  by_cases h3 : fit (c :: r) = (c :: r).length
  ·omega
  ·rw [first_broken h1 h2 h3] at h; simp at h; omega
def cut (b : List Int) : List Int × List Int :=
 if h : (first b).2 = 0 then ([], b) else ((first b).1 :: (cut (b.drop (first b).2)).1, (cut (b.drop (first b).2)).2)
 termination_by b.length
 decreasing_by all_goals (have := first_le b; rw [List.length_drop]; omega)
theorem cut_held {b : List Int} (h : (first b).2 = 0) : cut b = ([], b) := by rw [cut, dif_pos h]
theorem cut_step {b : List Int} (h : (first b).2 ≠ 0) : cut b = ((first b).1 :: (cut (b.drop (first b).2)).1, (cut (b.drop (first b).2)).2) := by rw [cut, dif_neg h]
theorem cut_nil : cut [] = ([], []) := cut_held rfl
theorem cut_append (n : Nat) : ∀ x y, x.length = n → cut (x ++ y) = ((cut x).1 ++ (cut ((cut x).2 ++ y)).1, (cut ((cut x).2 ++ y)).2) := by
 induction n using Nat.strongRecOn with
 | _ n ih =>
  intro x y hn
  by_cases h : (first x).2 = 0
  ·rw [cut_held h]; simp
  ·have hl := first_le x
   have e := first_append x y h
   rw [cut_step h, cut_step (b := x ++ y) (by rw [e]; exact h), e, List.drop_append_of_le_length hl]
   have := ih (x.drop (first x).2).length (by rw [List.length_drop]; omega) (x.drop (first x).2) y rfl
   rw [this]; simp
theorem cut_append' (x y : List Int) : cut (x ++ y) = ((cut x).1 ++ (cut ((cut x).2 ++ y)).1, (cut ((cut x).2 ++ y)).2) := cut_append _ x y rfl
theorem cut_facts (n : Nat) : ∀ b, b.length = n → (first (cut b).2).2 = 0 ∧ (Byte b → (∀ r ∈ (cut b).1, isSc r = true) ∧ Byte (cut b).2) ∧ (cut b).1.length ≤ b.length := by
 induction n using Nat.strongRecOn with
 | _ n ih =>
  intro b hn
  by_cases h : (first b).2 = 0
  ·rw [cut_held h]; exact ⟨h, fun hb => ⟨by simp, hb⟩, by simp⟩
  ·have hl := first_le b
   rw [cut_step h]
   have := ih (b.drop (first b).2).length (by rw [List.length_drop]; omega) (b.drop (first b).2) rfl
   refine ⟨this.1, fun hb => ?_, ?_⟩
   ·have q := this.2.1 (hb.drop _)
    refine ⟨fun r hr => ?_, q.2⟩
    rcases List.mem_cons.1 hr with rfl | hr
    ·exact first_sc b hb h
    ·exact q.1 r hr
   ·have := this.2.2; rw [List.length_drop] at this; simp; omega
theorem cut_rest (b : List Int) : (first (cut b).2).2 = 0 := (cut_facts _ b rfl).1
theorem cut_len (b : List Int) : (cut b).1.length ≤ b.length := (cut_facts _ b rfl).2.2
theorem cut_sc (b : List Int) (hb : Byte b) : ∀ r ∈ (cut b).1, isSc r = true := ((cut_facts _ b rfl).2.1 hb).1
theorem cut_byte (b : List Int) (hb : Byte b) : Byte (cut b).2 := ((cut_facts _ b rfl).2.1 hb).2
theorem encS_byte (r : Int) (h : isSc r = true) : Byte (encS r) := by
 rw [isSc_iff] at h
 intro x hx
 by_cases h1 : r < 128
 ·rw [encS1 h1] at hx; simp at hx; omega
 by_cases h2 : r < 2048
 ·rw [encS2 h1 h2] at hx; simp at hx; omega
 by_cases h3 : r < 65536
 ·rw [encS3 h2 h3] at hx; simp at hx; omega
 ·rw [encS4 h3] at hx; simp at hx; omega
theorem encA_byte (l : List Int) : Byte (encA l) := by
 induction l with
 | nil => intro x hx; simp [encA] at hx
 | cons r l ih => exact (encS_byte _ (fix_sc r)).append ih
end Go.Proofs.YtkijclgbpbhglaaGreatDoor
