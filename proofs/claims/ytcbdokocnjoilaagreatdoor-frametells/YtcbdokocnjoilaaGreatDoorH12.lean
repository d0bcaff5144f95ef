/-
  Contracts and plain mathematics of DMath, LWalkM, COpen, LOpen, GMem, DMem.
-/
import Derived.Test.YtcbdokocnjoilaaGreatDoorH11
import Derived.Test.YtcbdokocnjoilaaGreatDoorH4
import Derived.Test.YtcbdokocnjoilaaGreatDoorH5
import Derived.Lib.SmallJoins
import Derived.Deep.Strs
import Derived.OpenShut
import Derived.Deep.Slices
import Derived.OwnWalk
import Derived.Laws.OwnMore
namespace Go.Proofs.YtcbdokocnjoilaaGreatDoor
set_option maxRecDepth 100000
set_option linter.unusedVariables false
set_option maxHeartbeats 8000000
/-- A span. -/
structure Sp where
  row : Int
  col : Int
  cs : List Cel
deriving DecidableEq
/-- A difference. -/
structure Df where
  rows : Int
  cols : Int
  row : Int
  col : Int
  ss : List Sp
deriving DecidableEq
def zeroS : Sp := ⟨0, 0, []⟩
def sAt (l : List Sp) (i : Nat) : Sp := l.getD i zeroS
theorem get_sAt (l : List Sp) (i : Nat) (h : i < l.length) : l[i]? = some (sAt l i) := by
  unfold sAt; rw [List.getD_eq_getElem?_getD, List.getElem?_eq_getElem h]; rfl

/-! ### what is wrong -/
def spE (R C : Int) (ss : List Sp) (i : Nat) : Int :=
  if 0 < i ∧ (sAt ss i).row ≤ (sAt ss (i - 1)).row then 17
  else if (sAt ss i).row < 0 ∨ R ≤ (sAt ss i).row ∨ (sAt ss i).col < 0 ∨ C ≤ (sAt ss i).col ∨ C - (sAt ss i).col < ((sAt ss i).cs.length : Int) then 5
  else if (sAt ss i).cs.length = 0 then 3 else 0
def errTo (f : Nat → Int) : Nat → Int
  | 0 => 0
  | k + 1 => if errTo f k = 0 then f k else errTo f k
theorem errTo_stays (f : Nat → Int) (k n : Nat) (hk : k ≤ n) (h : errTo f k ≠ 0) : errTo f n = errTo f k := by
  induction n with
  | zero => rw [show k = 0 by omega]
  | succ n ih =>
    by_cases hn : k = n + 1
    · rw [hn]
    · have := ih (by omega)
      simp only [errTo, this, if_neg h]
theorem errTo_first (f : Nat → Int) (k n : Nat) (hk : k < n) (h0 : errTo f k = 0) (h : f k ≠ 0) : errTo f n = f k := by
  have e : errTo f (k + 1) = f k := by simp only [errTo, h0, if_true]
  rw [errTo_stays f (k + 1) n (by omega) (by rw [e]; exact h), e]
theorem errTo_next (f : Nat → Int) (k : Nat) (h0 : errTo f k = 0) (h : f k = 0) : errTo f (k + 1) = 0 := by simp only [errTo, h0, if_true, h]
theorem errTo_zero {f : Nat → Int} {n : Nat} (h : errTo f n = 0) : ∀ i, i < n → f i = 0 := by
  induction n with
  | zero => intro i hi; omega
  | succ n ih =>
    have h0 : errTo f n = 0 := by
      by_cases q : errTo f n = 0
      · exact q
      · simp only [errTo, if_neg q] at h; exact absurd h q
    intro i hi
    by_cases q : i = n
    · subst q; simpa only [errTo, h0, if_true] using h
    · exact ih h0 i (by omega)
theorem errTo_of {f : Nat → Int} {n : Nat} (h : ∀ i, i < n → f i = 0) : errTo f n = 0 := by
  induction n with
  | zero => rfl
  | succ n ih => exact errTo_next f n (ih fun i hi => h i (by omega)) (h n (by omega))
def checkD (d : Df) : Int :=
  if ¬ sizeN d.rows d.cols then 11
  else if d.row < 0 ∨ d.rows ≤ d.row ∨ d.col < 0 ∨ d.cols ≤ d.col then 5
  else errTo (spE d.rows d.cols d.ss) d.ss.length

/-! ### laid over -/
def overL (l : List Cel) (a : Nat) (cs : List Cel) : List Cel := tab l.length (fun i => if a ≤ i ∧ i < a + cs.length then cAt cs (i - a) else cAt l i)
theorem over_len (l : List Cel) (a : Nat) (cs : List Cel) : (overL l a cs).length = l.length := tab_len _ _
def overK (l : List Cel) (a : Nat) (cs : List Cel) (k : Nat) : List Cel := overL l a (cs.take k)
theorem cAt_take (l : List Cel) (k i : Nat) (h : i < k) : cAt (l.take k) i = cAt l i := by
  unfold cAt; rw [List.getD_eq_getElem?_getD, List.getD_eq_getElem?_getD, List.getElem?_take, if_pos h]
theorem cAt_drop (l : List Cel) (k i : Nat) : cAt (l.drop k) i = cAt l (k + i) := by
  unfold cAt; rw [List.getD_eq_getElem?_getD, List.getD_eq_getElem?_getD, List.getElem?_drop]
theorem over_0 (l : List Cel) (a : Nat) : overL l a [] = l := by
  unfold overL
  conv => rhs; rw [← tab_self l]
  exact tab_eq fun i _ => by rw [if_neg (by simp only [List.length_nil]; omega)]
theorem overK_0 (l : List Cel) (a : Nat) (cs : List Cel) : overK l a cs 0 = l := by unfold overK; rw [List.take_zero, over_0]
theorem overK_all (l : List Cel) (a : Nat) (cs : List Cel) (k : Nat) (h : cs.length ≤ k) : overK l a cs k = overL l a cs := by unfold overK; rw [List.take_of_length_le h]
theorem overK_next (l : List Cel) (a : Nat) (cs : List Cel) (k : Nat) (h : k < cs.length) : overK l a cs (k + 1) = (overK l a cs k).set (a + k) (cAt cs k) := by
  unfold overK overL
  rw [tab_set]
  refine tab_eq fun i hi => ?_
  rw [List.length_take, List.length_take, Nat.min_eq_left (by omega), Nat.min_eq_left (by omega)]
  by_cases h1 : i = a + k
  · subst h1
    rw [if_pos (by omega), if_pos rfl, cAt_take _ _ _ (by omega)]
    congr 1; omega
  · rw [if_neg h1]
    by_cases h2 : a ≤ i ∧ i < a + k
    · rw [if_pos (by omega), if_pos h2, cAt_take _ _ _ (by omega), cAt_take _ _ _ (by omega)]
    · rw [if_neg (by omega), if_neg h2]

/-! ### applied -/
def stepOk (C : Nat) (g : Gd) (s : Sp) : Bool := layOk g s.row (overL (lAt g.ls s.row.toNat) s.col.toNat s.cs) C
def stepG (C : Nat) (g : Gd) (s : Sp) : Gd := layG g s.row (overL (lAt g.ls s.row.toNat) s.col.toNat s.cs) C
def foldD (C : Nat) (g : Gd) (ss : List Sp) : Gd := ss.foldl (stepG C) g
def okD (C : Nat) : Gd → List Sp → Bool
  | _, [] => true
  | g, s :: t => stepOk C g s && okD C (stepG C g s) t
theorem fold_app (C : Nat) (g : Gd) (s t : List Sp) : foldD C g (s ++ t) = foldD C (foldD C g s) t := by unfold foldD; rw [List.foldl_append]
theorem ok_app (C : Nat) (g : Gd) (s t : List Sp) : okD C g (s ++ t) = (okD C g s && okD C (foldD C g s) t) := by
  induction s generalizing g with
  | nil => simp [okD, foldD]
  | cons a s ih => simp only [List.cons_append, okD, ih, foldD, List.foldl_cons, Bool.and_assoc]
theorem take_nextS (ss : List Sp) (k : Nat) (h : k < ss.length) : ss.take (k + 1) = ss.take k ++ [sAt ss k] := by
  rw [List.take_add_one, get_sAt ss k h]; rfl
theorem fold_next (C : Nat) (g : Gd) (ss : List Sp) (k : Nat) (h : k < ss.length) : foldD C g (ss.take (k + 1)) = stepG C (foldD C g (ss.take k)) (sAt ss k) := by
  rw [take_nextS ss k h, fold_app]; rfl
theorem ok_next (C : Nat) (g : Gd) (ss : List Sp) (k : Nat) (h : k < ss.length) (h0 : okD C g (ss.take k) = true) : okD C g (ss.take (k + 1)) = stepOk C (foldD C g (ss.take k)) (sAt ss k) := by
  rw [take_nextS ss k h, ok_app, h0]; simp [okD]
theorem ok_not (C : Nat) (g : Gd) (ss : List Sp) (k : Nat) (h : k < ss.length) (h0 : okD C g (ss.take k) = true) (h1 : stepOk C (foldD C g (ss.take k)) (sAt ss k) = false) : okD C g ss = false := by
  have e : ss = ss.take (k + 1) ++ ss.drop (k + 1) := (List.take_append_drop _ _).symm
  rw [e, ok_app, ok_next C g ss k h h0, h1]; rfl
/-- What a difference makes of a grid (it is right): the grid, and whether there is one. -/
def applyG (d : Df) (g : Gd) : Gd := moveG (foldD d.cols.toNat (fitG g d.rows.toNat d.cols.toNat) d.ss) d.row d.col d.cols.toNat
def applyE (d : Df) (g : Gd) : Int := if checkD d = 0 then (if okD d.cols.toNat (fitG g d.rows.toNat d.cols.toNat) d.ss = true then 0 else 3) else checkD d

/-! ### the difference -/
def neAt (x y : List Cel) (i : Nat) : Bool := decide (cAt x i ≠ cAt y i)
def fstI (x y : List Cel) : Nat → Int
  | 0 => -1
  | k + 1 => if fstI x y k < 0 ∧ neAt x y k = true then (k : Int) else fstI x y k
def lstI (x y : List Cel) : Nat → Int
  | 0 => -1
  | k + 1 => if neAt x y k = true then (k : Int) else lstI x y k
theorem fl_is (x y : List Cel) (k : Nat) : (fstI x y k = -1 ∧ lstI x y k = -1 ∧ ∀ i, i < k → neAt x y i = false) ∨
    (∃ a b : Nat, fstI x y k = (a : Int) ∧ lstI x y k = (b : Int) ∧ a ≤ b ∧ b < k ∧ neAt x y a = true ∧ neAt x y b = true ∧ (∀ i, i < a → neAt x y i = false) ∧ ∀ i, b < i → i < k → neAt x y i = false) := by
  induction k with
  | zero => exact .inl ⟨rfl, rfl, fun i h => by omega⟩
  | succ k ih =>
    rcases ih with ⟨h1, h2, h3⟩ | ⟨a, b, h1, h2, h3, h4, h5, h6, h7, h8⟩
    · cases q : neAt x y k with
      | false =>
        refine .inl ⟨by simp only [fstI, q]; simpa using h1, by simp only [lstI, q]; simpa using h2, fun i hi => ?_⟩
        by_cases e : i = k
        · subst e; exact q
        · exact h3 i (by omega)
      | true => exact .inr ⟨k, k, by simp only [fstI, q]; rw [if_pos ⟨by omega, trivial⟩], by simp only [lstI, q, if_true], by omega, by omega, q, q, h3, fun i h h' => by omega⟩
    · cases q : neAt x y k with
      | false =>
        refine .inr ⟨a, b, by simp only [fstI, q]; simpa using h1, by simp only [lstI, q]; simpa using h2, h3, by omega, h5, h6, h7, fun i hi hi' => ?_⟩
        by_cases e : i = k
        · subst e; exact q
        · exact h8 i hi (by omega)
      | true => exact .inr ⟨a, k, by simp only [fstI, q]; rw [if_neg (by omega)]; exact h1, by simp only [lstI, q, if_true], by omega, by omega, h5, q, h7, fun i h h' => by omega⟩
def spanAt (x y : List Cel) (C : Nat) (r : Nat) : List Sp := if fstI x y C < 0 then [] else [⟨(r : Int), fstI x y C, (y.take ((lstI x y C).toNat + 1)).drop (fstI x y C).toNat⟩]
def spansTo (f b : List (List Cel)) (C : Nat) (k : Nat) : List Sp := (List.range k).flatMap fun r => spanAt (lAt f r) (lAt b r) C r
theorem spans_next (f b : List (List Cel)) (C k : Nat) : spansTo f b C (k + 1) = spansTo f b C k ++ spanAt (lAt f k) (lAt b k) C k := by
  unfold spansTo; rw [List.range_succ, List.flatMap_append]; simp
/-- The difference from a to b (of R rows and C columns). -/
def ofD (a b : Gd) (R C : Nat) : Df := ⟨R, C, b.row, b.col, spansTo (fitG a R C).ls b.ls C R⟩
def cellsD (d : Df) : Nat := (d.ss.map fun s => s.cs.length).sum

theorem neAt_all {x y : List Cel} {C : Nat} (hx : x.length = C) (hy : y.length = C) (h : ∀ i, i < C → neAt x y i = false) : x = y := by
  rw [← tab_self x, ← tab_self y, hx, hy]
  refine tab_eq fun i hi => ?_
  simpa [neAt] using h i hi
theorem neAt_eq {x y : List Cel} {i : Nat} (h : neAt x y i = false) : cAt x i = cAt y i := by simpa [neAt] using h
theorem over_span {x y : List Cel} {C a b : Nat} (hx : x.length = C) (hy : y.length = C) (hb : b < C) (hab : a ≤ b) (h1 : ∀ i, i < a → neAt x y i = false) (h2 : ∀ i, b < i → i < C → neAt x y i = false) :
    overL x a ((y.take (b + 1)).drop a) = y := by
  unfold overL
  rw [List.length_drop, List.length_take, hy, Nat.min_eq_left (by omega)]
  conv => rhs; rw [← tab_self y]
  rw [hx, hy]
  refine tab_eq fun i hi => ?_
  by_cases h : a ≤ i ∧ i < a + (b + 1 - a)
  · rw [if_pos h, cAt_drop, cAt_take _ _ _ (by omega)]; congr 1; omega
  · rw [if_neg h]
    by_cases q : i < a
    · exact neAt_eq (h1 i q)
    · exact neAt_eq (h2 i (by omega) hi)

/-- What is known of each span of a difference. -/
structure SpOk (x y : List Cel) (C r : Nat) (s : Sp) : Prop where
  row : s.row = (r : Int)
  ex : ∃ a b : Nat, s.col = (a : Int) ∧ a ≤ b ∧ b < C ∧ s.cs = (y.take (b + 1)).drop a ∧ neAt x y a = true ∧ neAt x y b = true ∧ overL x a s.cs = y
theorem span_cases {x y : List Cel} {C : Nat} (r : Nat) (hx : x.length = C) (hy : y.length = C) : (spanAt x y C r = [] ∧ x = y) ∨ (x ≠ y ∧ ∃ s, spanAt x y C r = [s] ∧ SpOk x y C r s) := by
  unfold spanAt
  rcases fl_is x y C with ⟨h1, h2, h3⟩ | ⟨a, b, h1, h2, h3, h4, h5, h6, h7, h8⟩
  · exact .inl ⟨by rw [if_pos (by omega)], neAt_all hx hy h3⟩
  · refine .inr ⟨fun e => ?_, _, by rw [if_neg (by omega)], rfl, a, b, h1, h3, h4, ?_, h5, h6, ?_⟩
    · subst e; simp [neAt] at h5
    · rw [h1, h2]; rfl
    · show overL x a ((y.take ((lstI x y C).toNat + 1)).drop (fstI x y C).toNat) = y
      rw [h1, h2]
      exact over_span hx hy h4 h3 h7 h8

theorem lay_is {g : Gd} {C k : Nat} {l : List Cel} (hk : k < g.ls.length) (hl : l.length = C) (hr : rightL l = true) : layOk g (k : Int) l C = true ∧ layG g (k : Int) l C = { g with ls := g.ls.set k l } := by
  have h1 : layOk g (k : Int) l C = true := by
    unfold layOk
    simp only [Bool.and_eq_true, decide_eq_true_iff]
    exact ⟨⟨by omega, by omega⟩, hl, hr⟩
  exact ⟨h1, by unfold layG; rw [if_pos h1]; rfl⟩
theorem lay_self (g : Gd) (r : Int) (C : Nat) (l : List Cel) (h : l = lAt g.ls r.toNat) : layG g r l C = g := by
  unfold layG
  split
  · rw [h, set_same]
  · rfl
theorem take_fold {f b : Gd} {R C : Nat} (hf : GOk f R C) (hb : GOk b R C) (k : Nat) (hk : k ≤ R) :
    okD C f (spansTo f.ls b.ls C k) = true ∧ foldD C f (spansTo f.ls b.ls C k) = ⟨gtab R fun i => if i < k then lAt b.ls i else lAt f.ls i, f.row, f.col⟩ := by
  induction k with
  | zero =>
    refine ⟨rfl, ?_⟩
    show f = _
    have e : gtab R (fun i => if i < 0 then lAt b.ls i else lAt f.ls i) = f.ls := by
      rw [← gtab_self f.ls, hf.len]
      exact gtab_eq fun i hi => by rw [if_neg (by omega), gtab_lAt _ _ _ (by omega)]
    rw [e]
  | succ k ih =>
    obtain ⟨i1, i2⟩ := ih (by omega)
    have hx := (hf.each k (by omega)).1
    have hy := hb.each k (by omega)
    have eL : lAt (gtab R fun i => if i < k then lAt b.ls i else lAt f.ls i) k = lAt f.ls k := by rw [gtab_lAt _ _ _ (by omega), if_neg (by omega)]
    have eq1 : lAt f.ls k = lAt b.ls k → gtab R (fun i => if i < k + 1 then lAt b.ls i else lAt f.ls i) = gtab R (fun i => if i < k then lAt b.ls i else lAt f.ls i) := fun e => gtab_eq fun i hi => by
      by_cases q : i = k
      · subst q; rw [if_pos (by omega), if_neg (by omega), e]
      · by_cases q2 : i < k
        · rw [if_pos (by omega), if_pos q2]
        · rw [if_neg (by omega), if_neg q2]
    rw [spans_next]
    rcases span_cases k hx hy.1 with ⟨h1, h2⟩ | ⟨h2, s, h1, h3⟩
    · rw [h1, List.append_nil, eq1 h2]
      exact ⟨i1, i2⟩
    · obtain ⟨a, b', h4, h5, h6, h7, h8, h9, h10⟩ := h3.ex
      have eo : overL (lAt (foldD C f (spansTo f.ls b.ls C k)).ls s.row.toNat) s.col.toNat s.cs = lAt b.ls k := by
        rw [i2, h3.row, h4]
        show overL (lAt (gtab R fun i => if i < k then lAt b.ls i else lAt f.ls i) k) a s.cs = _
        rw [eL, h10]
      have hl := lay_is (g := foldD C f (spansTo f.ls b.ls C k)) (C := C) (k := k) (l := lAt b.ls k) (by rw [i2]; show k < (gtab R _).length; rw [gtab_len]; omega) hy.1 hy.2.1
      rw [h1]
      refine ⟨?_, ?_⟩
      · rw [ok_app, i1]
        simp only [okD, stepOk, Bool.and_true, Bool.true_and]
        rw [eo, h3.row]; exact hl.1
      · rw [fold_app]
        show stepG C (foldD C f (spansTo f.ls b.ls C k)) s = _
        unfold stepG
        rw [eo, h3.row, hl.2, i2]
        congr 1
        rw [set_gtab, gtab_len]
        refine gtab_eq fun i hi => ?_
        by_cases q : i = k
        · subst q; rw [if_pos rfl, if_pos (by omega)]
        · rw [if_neg q, gtab_lAt _ _ _ hi]
          by_cases q2 : i < k
          · rw [if_pos q2, if_pos (by omega)]
          · rw [if_neg q2, if_neg (by omega)]
theorem fold_all {f b : Gd} {R C : Nat} (hf : GOk f R C) (hb : GOk b R C) : okD C f (spansTo f.ls b.ls C R) = true ∧ foldD C f (spansTo f.ls b.ls C R) = ⟨b.ls, f.row, f.col⟩ := by
  have h := take_fold hf hb R (Nat.le_refl R)
  have e : gtab R (fun i => if i < R then lAt b.ls i else lAt f.ls i) = b.ls := by
    rw [← gtab_self b.ls, hb.len]
    exact gtab_eq fun i hi => by rw [if_pos hi, gtab_lAt _ _ _ hi]
  rw [e] at h; exact h

/-! ### what is known of the spans -/
theorem spans_mem {f b : Gd} {R C : Nat} (hf : GOk f R C) (hb : GOk b R C) {k : Nat} (hk : k ≤ R) {s : Sp} (h : s ∈ spansTo f.ls b.ls C k) : ∃ r, r < k ∧ SpOk (lAt f.ls r) (lAt b.ls r) C r s := by
  unfold spansTo at h
  rw [List.mem_flatMap] at h
  obtain ⟨r, h1, h2⟩ := h
  rw [List.mem_range] at h1
  rcases span_cases r (hf.each r (by omega)).1 (hb.each r (by omega)).1 with ⟨h3, _⟩ | ⟨_, s', h3, h4⟩
  · rw [h3] at h2; cases h2
  · rw [h3, List.mem_singleton] at h2
    subst h2
    exact ⟨r, h1, h4⟩
theorem spans_pair {f b : Gd} {R C : Nat} (hf : GOk f R C) (hb : GOk b R C) (k : Nat) (hk : k ≤ R) : (spansTo f.ls b.ls C k).Pairwise (fun s t => s.row < t.row) := by
  induction k with
  | zero => exact List.Pairwise.nil
  | succ k ih =>
    rw [spans_next, List.pairwise_append]
    refine ⟨ih (by omega), ?_, fun s hs t ht => ?_⟩
    · rcases span_cases k (hf.each k (by omega)).1 (hb.each k (by omega)).1 with ⟨h3, _⟩ | ⟨_, s', h3, h4⟩
      · rw [h3]; exact List.Pairwise.nil
      · rw [h3]; exact List.pairwise_singleton _ _
    · obtain ⟨r, h1, h2⟩ := spans_mem hf hb (by omega) hs
      rcases span_cases k (hf.each k (by omega)).1 (hb.each k (by omega)).1 with ⟨h3, _⟩ | ⟨_, s', h3, h4⟩
      · rw [h3] at ht; cases ht
      · rw [h3, List.mem_singleton] at ht
        subst ht
        rw [h2.row, h4.row]; omega
theorem spans_nil {f b : Gd} {R C : Nat} (hf : GOk f R C) (hb : GOk b R C) : spansTo f.ls b.ls C R = [] ↔ f.ls = b.ls := by
  constructor
  · intro h
    have := (fold_all hf hb).2
    rw [h] at this
    simp only [foldD, List.foldl_nil] at this
    rw [this]
  · intro h
    unfold spansTo
    rw [h, List.flatMap_eq_nil_iff]
    intro r hr
    rw [List.mem_range] at hr
    rcases span_cases r (hb.each r hr).1 (hb.each r hr).1 with ⟨h3, _⟩ | ⟨h3, _⟩
    · exact h3
    · exact absurd rfl h3
theorem sp_len {x y : List Cel} {C r : Nat} {s : Sp} (h : SpOk x y C r s) (hy : y.length = C) : 1 ≤ s.cs.length ∧ 0 ≤ s.col ∧ s.col + (s.cs.length : Int) ≤ (C : Int) := by
  obtain ⟨a, b, h1, h2, h3, h4, _⟩ := h.ex
  rw [h4, h1, List.length_drop, List.length_take, hy, Nat.min_eq_left (by omega)]
  omega
theorem mem_sAt (l : List Sp) (i : Nat) (h : i < l.length) : sAt l i ∈ l := by
  have := get_sAt l i h
  exact List.mem_of_getElem? this
theorem check_of {f b : Gd} {R C : Nat} (hf : GOk f R C) (hb : GOk b R C) (row col : Nat) (hr : row < R) (hc : col < C) : checkD ⟨R, C, row, col, spansTo f.ls b.ls C R⟩ = 0 := by
  have r1 := hb.r1; have r2 := hb.r2; have c1 := hb.c1; have c2 := hb.c2
  unfold checkD
  rw [if_neg (by unfold sizeN; simp only; omega), if_neg (by simp only; omega)]
  refine errTo_of fun i hi => ?_
  simp only at hi ⊢
  obtain ⟨r, h1, h2⟩ := spans_mem hf hb (Nat.le_refl R) (mem_sAt _ i hi)
  obtain ⟨h3, h4, h5⟩ := sp_len h2 (hb.each r h1).1
  have h6 := h2.row
  unfold spE
  rw [if_neg, if_neg (by omega), if_neg (by omega)]
  rintro ⟨q1, q2⟩
  have hp := spans_pair hf hb R (Nat.le_refl R)
  rw [List.pairwise_iff_getElem] at hp
  have := hp (i - 1) i (by omega) hi (by omega)
  have e1 := get_sAt _ (i - 1) (show i - 1 < (spansTo f.ls b.ls C R).length by omega)
  have e2 := get_sAt _ i hi
  rw [List.getElem?_eq_getElem (by omega)] at e1 e2
  simp only [Option.some.injEq] at e1 e2
  rw [e1, e2] at this
  omega

theorem GOk.fold {C R : Nat} (ss : List Sp) {g : Gd} (h : GOk g R C) (hl : ∀ s, s ∈ ss → LB s.cs) : GOk (foldD C g ss) R C := by
  induction ss generalizing g with
  | nil => exact h
  | cons s t ih =>
    refine ih (g := stepG C g s) ?_ fun x hx => hl x (List.mem_cons_of_mem _ hx)
    unfold stepG
    by_cases q : layOk g s.row (overL (lAt g.ls s.row.toNat) s.col.toNat s.cs) C = true
    · refine h.lay _ _ ?_
      unfold overL
      refine LB_tab fun i hi => ?_
      have hs := hl s (List.mem_cons_self ..)
      split
      · rename_i q2
        exact hs _ (by omega)
      · unfold layOk at q
        simp only [Bool.and_eq_true, decide_eq_true_iff] at q
        have := h.each _ (h.at q.1)
        exact this.2.2 _ hi
    · unfold layG; rw [if_neg q]; exact h

/-- Applied to the one it makes the other. -/
theorem apply_of {a b : Gd} {R' C' R C : Nat} (ha : GOk a R' C') (hb : GOk b R C) : checkD (ofD a b R C) = 0 ∧ applyE (ofD a b R C) a = 0 ∧ applyG (ofD a b R C) a = b := by
  have hf := ha.fit hb.r1 hb.r2 hb.c1 hb.c2
  have h0 : checkD (ofD a b R C) = 0 := check_of hf hb b.row b.col hb.row hb.col
  obtain ⟨h1, h2⟩ := fold_all hf hb
  refine ⟨h0, ?_, ?_⟩
  · unfold applyE
    rw [if_pos h0]
    show (if okD C (fitG a R C) (spansTo (fitG a R C).ls b.ls C R) = true then (0 : Int) else 3) = 0
    rw [if_pos h1]
  · unfold applyG
    show moveG (foldD C (fitG a R C) (spansTo (fitG a R C).ls b.ls C R)) b.row b.col C = b
    rw [h2]
    unfold moveG
    simp only
    rw [hb.len, nearN_self _ _ hb.row, nearN_self _ _ hb.col]
theorem fit_same {l : List Cel} {C : Nat} (h : l.length = C) (hC : C ≤ 512) (hr : rightL l = true) : fitC l (C : Int) = l := by
  have e : fitTab l (C : Int) = l := by
    unfold fitTab
    conv => rhs; rw [← tab_self l]
    rw [show lenN (C : Int) = l.length by unfold lenN; omega]
    exact tab_eq fun i hi => by rw [if_pos hi]
  unfold fitC
  rw [e, mend_right hr]
theorem fit_is {a : Gd} {R C : Nat} (ha : GOk a R C) : fitG a R C = a := by
  unfold fitG
  rw [nearN_self _ _ ha.row, nearN_self _ _ ha.col]
  have e : gtab R (fitAtG a.ls C) = a.ls := by
    rw [← gtab_self a.ls, ha.len]
    refine gtab_eq fun i hi => ?_
    rw [fitAtG_is, gtab_lAt _ _ _ hi]
    exact fit_same (ha.each i hi).1 ha.c2 (ha.each i hi).2.1
  rw [e]
theorem of_self {b : Gd} {R C : Nat} (hb : GOk b R C) : (ofD b b R C).ss = [] := by
  show spansTo (fitG b R C).ls b.ls C R = []
  rw [fit_is hb]
  exact (spans_nil hb hb).2 rfl

/-! ### how many cells -/
theorem sum_le (l : List Sp) (C : Nat) (h : ∀ s, s ∈ l → s.cs.length ≤ C) : (l.map fun s => s.cs.length).sum ≤ l.length * C := by
  induction l with
  | nil => simp
  | cons a t ih =>
    have h1 := h a (List.mem_cons_self ..)
    have h2 := ih fun s hs => h s (List.mem_cons_of_mem _ hs)
    simp only [List.map_cons, List.sum_cons, List.length_cons, Nat.add_mul, Nat.one_mul]
    omega
theorem spans_len {f b : Gd} {R C : Nat} (hf : GOk f R C) (hb : GOk b R C) (k : Nat) (hk : k ≤ R) : (spansTo f.ls b.ls C k).length ≤ k := by
  induction k with
  | zero => exact Nat.le_refl 0
  | succ k ih =>
    rw [spans_next, List.length_append]
    have := ih (by omega)
    rcases span_cases k (hf.each k (by omega)).1 (hb.each k (by omega)).1 with ⟨h3, _⟩ | ⟨_, s', h3, h4⟩ <;> rw [h3] <;> simp <;> omega
theorem cells_le {a b : Gd} {R' C' R C : Nat} (ha : GOk a R' C') (hb : GOk b R C) : cellsD (ofD a b R C) ≤ R * C := by
  have hf := ha.fit hb.r1 hb.r2 hb.c1 hb.c2
  refine Nat.le_trans (sum_le _ C fun s hs => ?_) (Nat.mul_le_mul_right C (spans_len hf hb R (Nat.le_refl R)))
  obtain ⟨r, h1, h2⟩ := spans_mem hf hb (Nat.le_refl R) hs
  have := sp_len h2 (hb.each r h1).1
  omega
section
open Go.ChangeShapes Go.WideShapes Go.ChangeAt Go.RowKit
/-- What is known of a line that came in. -/
def LineIn (w : World) (A : Option Addr) (len cap : Nat) (cs : List Cel) : Prop := Cels .i32 w A cs ∧ len ≤ cs.length ∧ len ≤ cap ∧ (A = none → cap = 0) ∧ LB cs
end
section
open Go.ChangeShapes Go.WideShapes Go.ChangeAt Go.RowKit Go.Joins
theorem structCell : ∃ f0 f1 f2 f3 : Field, Tryz.prog.underlying 105 = some (.struct #[f0, f1, f2, f3]) ∧ f0.type = 21 ∧ f1.type = 102 ∧ f2.type = 5 ∧ f3.type = 103 ∧ f0.offset = 0 ∧ f1.offset = 1 ∧ f2.offset = 3 ∧ f3.offset = 4 := ⟨_, _, _, _, Tryz.underlying105, rfl, rfl, rfl, rfl, rfl, rfl, rfl, rfl⟩
theorem structPen : ∃ f0 f1 f2 : Field, Tryz.prog.underlying 103 = some (.struct #[f0, f1, f2]) ∧ f0.type = 5 ∧ f1.type = 5 ∧ f2.type = 5 ∧ f0.offset = 0 ∧ f1.offset = 1 ∧ f2.offset = 2 := ⟨_, _, _, Tryz.underlying103, rfl, rfl, rfl, rfl, rfl, rfl⟩
theorem sizeCell : Tryz.prog.cellsOf 105 = 7 := by kernel_rfl
theorem sizePen : Tryz.prog.cellsOf 103 = 3 := by kernel_rfl
theorem sizeM : Tryz.prog.cellsOf 102 = 2 := by kernel_rfl
theorem sizeU8 : Tryz.prog.cellsOf 5 = 1 := by kernel_rfl
section
variable {H : Type} {enc : TypeId × Value → H} {w : World} {base : Nat} {spare : Nat → Bool} {held : Bool}
theorem cells_pen {fuel : Nat} {c0 c1 c2 : Value} {x : DataW H × List MemPlace} (h : DataW.trod enc Tryz.prog w base spare held fuel 103 [c0, c1, c2] = some x) :
    ∃ f g b : Nat, c0 = .int .u8 (f : Int) ∧ c1 = .int .u8 (g : Int) ∧ c2 = .int .u8 (b : Int) ∧ PenOk f g b := by
  obtain ⟨f0, f1, f2, hu, e0, e1, e2, o0, o1, o2⟩ := structPen
  obtain ⟨y0, y1, y2, n, hx, hl, h0, h1, h2⟩ := Deep.trod_struct3 hu h
  rw [e0, o0, sizeU8] at h0
  rw [e1, o1, sizeU8] at h1
  rw [e2, o2, sizeU8] at h2
  obtain ⟨n0, k0, r0, w0⟩ := DataW.trod_int Tryz.underlying5 h0
  obtain ⟨n1, k1, r1, w1⟩ := DataW.trod_int Tryz.underlying5 h1
  obtain ⟨n2, k2, r2, w2⟩ := DataW.trod_int Tryz.underlying5 h2
  simp at k0 k1 k2
  subst k0 k1 k2
  obtain ⟨a0, rfl, m0⟩ := u8_nat w0
  obtain ⟨a1, rfl, m1⟩ := u8_nat w1
  obtain ⟨a2, rfl, m2⟩ := u8_nat w2
  exact ⟨a0, a1, a2, rfl, rfl, rfl, m0, m1, m2⟩
theorem cells_marks {fuel : Nat} {c0 c1 : Value} {x : DataW H × List MemPlace} (h : DataW.trod enc Tryz.prog w base spare held fuel 102 [c0, c1] = some x) :
    ∃ m n : Int, c0 = .int .i32 m ∧ c1 = .int .i32 n ∧ R32 m ∧ R32 n := by
  obtain ⟨xs, k, rfl, hx, hl, hn, hel⟩ := DataW.trod_array Tryz.underlying102 h
  have h0 := hel 0 (by omega)
  have h1 := hel 1 (by omega)
  rw [cellsI32] at h0 h1
  match xs, hn with
  | [y0, y1], _ =>
    simp at h0 h1
    obtain ⟨n0, k0, r0, w0⟩ := DataW.trod_int Tryz.underlying21 h0
    obtain ⟨n1, k1, r1, w1⟩ := DataW.trod_int Tryz.underlying21 h1
    simp at k0 k1
    subst k0 k1
    exact ⟨n0, n1, rfl, rfl, i32_R w0, i32_R w1⟩
theorem cells_cell {fuel : Nat} {c0 c1 c2 c3 c4 c5 c6 : Value} {x : DataW H × List MemPlace} (h : DataW.trod enc Tryz.prog w base spare held fuel 105 [c0, c1, c2, c3, c4, c5, c6] = some x) :
    ∃ (r m n : Int) (d f g b : Nat), [c0, c1, c2, c3, c4, c5, c6] = [.int .i32 r, .int .i32 m, .int .i32 n, .int .u8 (d : Int), .int .u8 (f : Int), .int .u8 (g : Int), .int .u8 (b : Int)] ∧ CelOk r m n d f g b := by
  obtain ⟨f0, f1, f2, f3, hu, e0, e1, e2, e3, o0, o1, o2, o3⟩ := structCell
  obtain ⟨y0, y1, y2, y3, n, hx, hl, h0, h1, h2, h3⟩ := trod_struct4 hu h
  rw [e0, o0, cellsI32] at h0
  rw [e1, o1, sizeM] at h1
  rw [e2, o2, sizeU8] at h2
  rw [e3, o3, sizePen] at h3
  simp only [List.drop_zero, List.drop_succ_cons, List.take_succ_cons, List.take_zero] at h0 h1 h2 h3
  obtain ⟨n0, k0, r0, w0⟩ := DataW.trod_int Tryz.underlying21 h0
  obtain ⟨m, n1, rfl, rfl, w1, w2⟩ := cells_marks h1
  obtain ⟨n3, k3, r3, w3⟩ := DataW.trod_int Tryz.underlying5 h2
  obtain ⟨f, g, b, rfl, rfl, rfl, w4, w5, w6⟩ := cells_pen h3
  simp at k0 k3
  subst k0 k3
  obtain ⟨d, rfl, w7⟩ := u8_nat w3
  exact ⟨n0, m, n1, d, f, g, b, rfl, i32_R w0, w1, w2, w7, w4, w5, w6⟩
end
/-- The values of a line whose cells are known one by one. -/
theorem cels_of_each {k : IntKind} {w : World} {b off n : Nat} {F : Nat → Cel} (h : ∀ i, i < n → ∀ d v, (cellL k (F i))[d]? = some v → w.cell? ⟨b, off + (i * 7 + d), none⟩ = some v) : Cels k w (some ⟨b, off, none⟩) (tab n F) := by
  refine .inr ⟨b, off, rfl, fun j v hj => ?_⟩
  have hl : j < n * 7 := by have := (List.getElem?_eq_some_iff.1 hj).1; rwa [flatC_len, tab_len] at this
  have e : j = j / 7 * 7 + j % 7 := by omega
  have hq : j / 7 < n := by omega
  have hd : j % 7 < 7 := by omega
  rw [e, flatC_get k _ _ _ hd, tab_get _ _ _ hq] at hj
  have := h (j / 7) hq (j % 7) v hj
  rwa [← e] at this
theorem list7 {α : Type} {cs : List α} (h : cs.length = 7) : ∃ c0 c1 c2 c3 c4 c5 c6, cs = [c0, c1, c2, c3, c4, c5, c6] := by
  match cs, h with
  | [c0, c1, c2, c3, c4, c5, c6], _ => exact ⟨c0, c1, c2, c3, c4, c5, c6, rfl⟩
section
variable {H : Type} {enc : TypeId × Value → H} {w : World} {base : Nat} {spare : Nat → Bool} {held : Bool}
theorem open_line {a : Option Addr} {len cap : Nat} {x : DataW H} {p : List MemPlace} (h : DataW.Trod enc Tryz.prog w base spare held 66 (.slice a len cap) x p) : ∃ cs, LineIn w a len cap cs := by
  obtain ⟨fuel, hf⟩ := h
  rcases Deep.open_slice Tryz.underlying66 hf with ⟨hcs, _⟩ | ⟨ad, l, c, m, n, D, Pl, hcs, hb, hl, hm, hmm, _, hel⟩
  · simp [Value.cells] at hcs
    obtain ⟨rfl, rfl, rfl⟩ := hcs
    exact ⟨[], .nil, Nat.le_refl _, Nat.le_refl _, fun _ => rfl, fun i hi => by cases hi⟩
  · simp [Value.cells] at hcs
    obtain ⟨rfl, rfl, rfl⟩ := hcs
    have hlm : len ≤ m := by rw [hmm]; split <;> omega
    rw [sizeCell] at hel
    have each : ∀ i, i < len → ∃ c : Cel, CelB c ∧ ∀ d v, (cellL .i32 c)[d]? = some v → w.cell? ((ad.add (i * 7)).add d) = some v := by
      intro i hi
      obtain ⟨cs', h1, h2⟩ := hel i (by omega)
      obtain ⟨-, h3, h4⟩ := World.cells?_some h1
      obtain ⟨c0, c1, c2, c3, c4, c5, c6, rfl⟩ := list7 h3
      obtain ⟨r, q, y, z, f, g, b, e, ok⟩ := cells_cell h2
      refine ⟨⟨r, q, y, z, ⟨f, g, b⟩⟩, ⟨ok.1, ok.2.1, ok.2.2.1, ok.2.2.2.1⟩, fun d v hv => ?_⟩
      have hd : d < 7 := (List.getElem?_eq_some_iff.1 hv).1
      rw [h4 d hd, e]
      exact hv
    by_cases h0 : len = 0
    · subst h0
      exact ⟨[], .nil, Nat.le_refl _, hl, (fun h => by cases h), fun i hi => by cases hi⟩
    · obtain ⟨c0, _, hc0⟩ := each 0 (by omega)
      have hs : ad.spot = none := by
        have := World.cell?_spot (hc0 0 _ rfl)
        simpa [Addr.add] using this
      obtain ⟨b, off, spot⟩ := ad
      simp only at hs
      subst hs
      have hadd : ∀ i j, ((⟨b, off, none⟩ : Addr).add i).add j = ⟨b, off + (i + j), none⟩ := by
        intro i j
        have e1 : ∀ (o q : Nat), (⟨b, o, none⟩ : Addr).add q = ⟨b, o + q, none⟩ := fun o q => by unfold Addr.add; split <;> simp_all
        rw [e1, e1, Nat.add_assoc]
      have each2 : ∀ i : Nat, ∃ c : Cel, i < len → CelB c ∧ ∀ d v, (cellL .i32 c)[d]? = some v → w.cell? ⟨b, off + (i * 7 + d), none⟩ = some v := by
        intro i
        by_cases hi : i < len
        · obtain ⟨c, h1, h2⟩ := each i hi
          exact ⟨c, fun _ => ⟨h1, fun d v hv => by rw [← hadd]; exact h2 d v hv⟩⟩
        · exact ⟨zeroC, fun q => absurd q hi⟩
      let F : Nat → Cel := fun i => Classical.choose (each2 i)
      have hF : ∀ i, i < len → CelB (F i) ∧ ∀ d v, (cellL .i32 (F i))[d]? = some v → w.cell? ⟨b, off + (i * 7 + d), none⟩ = some v := fun i hi => Classical.choose_spec (each2 i) hi
      exact ⟨tab len F, cels_of_each fun i hi => (hF i hi).2, by rw [tab_len]; exact Nat.le_refl _, hl, (fun h => by cases h), LB_tab fun i hi => (hF i hi).1⟩
end
end
section
open Go.ChangeShapes Go.WideShapes Go.ChangeAt Go.RowKit
/-! ### blocks -/
theorem Whole.ne {w : World} {a b : Nat} {t t' : TypeId} {l l' : List Value} (h : Whole w a t l) (k : Whole w b t' l') (ht : t ≠ t') : a ≠ b := by
  rintro rfl
  unfold Whole at h k
  rw [h] at k
  simp only [Option.some.injEq, Obj.cells.injEq] at k
  exact ht k.2.1
theorem Whole.same {w w' : World} {g : Nat} {t : TypeId} {l : List Value} (h : Whole w g t l) (e : w'.heap[g]? = w.heap[g]?) : Whole w' g t l := e.trans h
/-- Blocks G, L, M alone, and what is new, have turned. -/
structure Trn (G L M : Nat) (w w' : World) : Prop where
  os : w'.os = w.os
  tape : w'.tape = w.tape
  output : w'.output = w.output
  size : w.heap.size ≤ w'.heap.size
  block : ∀ i, i < w.heap.size → i ≠ G → i ≠ L → i ≠ M → w'.heap[i]? = w.heap[i]?
section
variable {G L M L' : Nat} {w w' w'' : World}
theorem Trn.refl : Trn G L M w w := ⟨rfl, rfl, rfl, Nat.le_refl _, fun _ _ _ _ _ => rfl⟩
theorem Trn.trans (h : Trn G L M w w') (k : Trn G L' M w' w'') (hL : L' = L ∨ w.heap.size ≤ L') : Trn G L M w w'' :=
  ⟨k.os.trans h.os, k.tape.trans h.tape, k.output.trans h.output, Nat.le_trans h.size k.size, fun i hi h1 h2 h3 => (k.block i (Nat.lt_of_lt_of_le hi h.size) h1 (by rcases hL with rfl | q; exact h2; omega) h3).trans (h.block i hi h1 h2 h3)⟩
theorem Trn.of_below (h : Below w.heap.size w w') : Trn G L M w w' := ⟨h.os, h.tape, h.output, h.size, fun i hi _ _ _ => h.block i hi⟩
/-- Where G, L, M are all new. -/
theorem Trn.below {B : Nat} {a : World} (h : Trn G L M w w') (hb : Below B a w) (hB : B ≤ w.heap.size) (hG : B ≤ G) (hL : B ≤ L) (hM : B ≤ M) : Below B a w' :=
  ⟨h.os.trans hb.os, h.tape.trans hb.tape, h.output.trans hb.output, Nat.le_trans hb.size h.size, fun i hi => (h.block i (by omega) (by omega) (by omega) (by omega)).trans (hb.block i hi)⟩
theorem Trn.whole (h : Trn G L M w w') {g : Nat} {t : TypeId} {l : List Value} (hw : Whole w g t l) (h1 : g ≠ G) (h2 : g ≠ L) (h3 : g ≠ M) : Whole w' g t l := hw.same (h.block g hw.lt h1 h2 h3)
end

/-! ### the program's grid -/
section
variable {w w' : World} {G L M R C : Nat} {g : Gd} {cap : Nat} {ps : Nat → Nat} {room : List Cel} {more : List Value}
end

/-! ### the document's grid: rows of lines -/
/-- What stays of blocks of a type. -/
def Stays (t : TypeId) (w w' : World) : Prop := ∀ (b : Nat) (cur : Array Value), w.heap[b]? = some (Obj.cells cur t (0, 0)) → w'.heap[b]? = w.heap[b]?
theorem Stays.of_below {t : TypeId} {w w' : World} (h : Below w.heap.size w w') : Stays t w w' := fun b cur hb => h.block b (Array.getElem?_eq_some_iff.1 hb).1
theorem Stays.trans {t : TypeId} {w w' w'' : World} (h : Stays t w w') (k : Stays t w' w'') : Stays t w w'' := fun b cur hb => (k b cur ((h b cur hb).trans hb)).trans (h b cur hb)
theorem Stays.put {t t' : TypeId} {w : World} {g i : Nat} {l : List Value} {u : Value} (h : Whole w g t' l) (ht : t ≠ t') : Stays t w (w.setCell ⟨g, i, none⟩ u) := by
  intro b cur hb
  refine Below.heap_setCell _ _ _ _ ?_
  rintro rfl
  unfold Whole at h
  rw [hb] at h
  simp only [Option.some.injEq, Obj.cells.injEq] at h
  exact ht h.2.1
/-- A value is a slice that holds this line. -/
def RowOk (w : World) (x : Value) (z : List Cel) : Prop := ∃ A c, x = .slice A z.length c ∧ (A = none → c = 0) ∧ z.length ≤ c ∧ (z = [] ∨ ∃ b off cur, A = some ⟨b, off, none⟩ ∧ w.heap[b]? = some (Obj.cells cur 100 (0, 0)) ∧ ∀ j v, (flatC .i64 z)[j]? = some v → w.cell? ⟨b, off + j, none⟩ = some v)
/-- A slice of such values. -/
def Lns (w : World) (A : Option Addr) (ls : List (List Cel)) : Prop := ls = [] ∨ ∃ b cur, A = some ⟨b, 0, none⟩ ∧ w.heap[b]? = some (Obj.cells cur 71 (0, 0)) ∧ ∀ i, i < ls.length → ∃ x, cur[i]? = some x ∧ RowOk w x (lAt ls i)
section
variable {w w' : World} {A : Option Addr} {ls : List (List Cel)} {x : Value} {z : List Cel}
theorem RowOk.keep (h : RowOk w x z) (hb : Stays 100 w w') : RowOk w' x z := by
  obtain ⟨A, c, e, h0, hn, hc⟩ := h
  refine ⟨A, c, e, h0, hn, ?_⟩
  rcases hc with hc | ⟨b, off, cur, ha, hh, hc⟩
  · exact .inl hc
  · refine .inr ⟨b, off, cur, ha, (hb b cur hh).trans hh, fun j v hj => ?_⟩
    have := hc j v hj
    rw [cell_of_row _ b _ cur 100 (0, 0) hh] at this
    rw [cell_of_row _ b _ cur 100 (0, 0) ((hb b cur hh).trans hh), this]
theorem RowOk.form (h : RowOk w x z) : ∃ A c, x = .slice A z.length c ∧ Cels .i64 w A z ∧ (A = none → c = 0) := by
  obtain ⟨A, c, e, h0, -, hc⟩ := h
  refine ⟨A, c, e, ?_, h0⟩
  rcases hc with hc | ⟨b, off, cur, ha, hh, hc⟩
  · exact .inl hc
  · exact .inr ⟨b, off, ha, hc⟩
theorem Lns.keep (h : Lns w A ls) (hb : Stays 100 w w') (hl : Stays 71 w w') : Lns w' A ls := by
  rcases h with h | ⟨b, cur, ha, hh, hc⟩
  · exact .inl h
  · refine .inr ⟨b, cur, ha, (hl b cur hh).trans hh, fun i hi => ?_⟩
    obtain ⟨x, h1, h2⟩ := hc i hi
    exact ⟨x, h1, h2.keep hb⟩
theorem Lns.below (h : Lns w A ls) (hb : Below w.heap.size w w') : Lns w' A ls := h.keep (.of_below hb) (.of_below hb)
theorem Lns.alloc (h : Lns w A ls) (o : Obj) : Lns (w.alloc o) A ls := h.below ((Below.refl _ _).alloc (Nat.le_refl _) _)
theorem Lns.drewN (h : Lns w A ls) (n : Nat) : Lns (w.drewN n) A ls := h.below ((Below.refl _ _).drewN n)
theorem Lns.at (h : Lns w A ls) {i : Nat} (hi : i < ls.length) : ∃ b A' c', A = some ⟨b, 0, none⟩ ∧ b < w.heap.size ∧ w.cell? ⟨b, i, none⟩ = some (.slice A' (lAt ls i).length c') ∧ RowOk w (.slice A' (lAt ls i).length c') (lAt ls i) ∧ Cels .i64 w A' (lAt ls i) ∧ (A' = none → c' = 0) := by
  rcases h with rfl | ⟨b, cur, ha, hh, hc⟩
  · simp at hi
  · obtain ⟨x, h1, h2⟩ := hc i hi
    obtain ⟨A', c', rfl, h3, h4⟩ := h2.form
    refine ⟨b, A', c', ha, (Array.getElem?_eq_some_iff.1 hh).1, ?_, h2, h3, h4⟩
    rw [cell_of_row _ b _ cur 71 (0, 0) hh, h1]
end
section
variable {w w' : World} {G L M R C : Nat} {g : Gd}
end

/-! ### rows of lines that a call makes and appends to -/
structure RwsC (B : Nat) (w wr : World) (v : Value) (zss : List (List Cel)) : Prop where
  row : ∃ xs : List Value, wr.ownsRow B 71 1 v zss.length xs ∧ ∀ (i : Nat) (x : Value) (z : List Cel), xs[i]? = some x → zss[i]? = some z → RowOk wr x z
  bel : Below B w wr
  le : B ≤ wr.heap.size
section
variable {B : Nat} {w wr w1 : World} {v : Value} {zss : List (List Cel)}
theorem RwsC.start (hB : B ≤ w.heap.size) : RwsC B w w (.slice none 0 0) [] := ⟨⟨[], World.ownsRow_nil _ _ _ _, fun i x z h => by simp at h⟩, Below.refl _ _, hB⟩
theorem RwsC.from0 (hB : B ≤ wr.heap.size) (hb : Below B w wr) : RwsC B w wr (.slice none 0 0) [] := ⟨⟨[], World.ownsRow_nil _ _ _ _, fun i x z h => by simp at h⟩, hb, hB⟩
theorem RwsC.later (h : RwsC B w wr v zss) (hb : Below wr.heap.size wr w1) : RwsC B w w1 v zss := by
  obtain ⟨xs, ho, hc⟩ := h.row
  refine ⟨⟨xs, ⟨ho.1, ?_⟩, fun i x z h1 h2 => (hc i x z h1 h2).keep (.of_below hb)⟩, h.bel.trans (hb.mono h.le), Nat.le_trans h.le hb.size⟩
  rcases ho.2 with h0 | ⟨g, cap, cur, hv, hB, hh, h1⟩
  · exact .inl h0
  · exact .inr ⟨g, cap, cur, hv, hB, by rw [hb.block g (Array.getElem?_eq_some_iff.1 hh).1, hh], h1⟩
theorem RwsC.alloc (h : RwsC B w wr v zss) (o : Obj) : RwsC B w (wr.alloc o) v zss := h.later ((Below.refl _ _).alloc (Nat.le_refl _) _)
/-- A store into a block of another type. -/
theorem RwsC.put (h : RwsC B w wr v zss) {g i : Nat} {t : TypeId} {l : List Value} {u : Value} (hw : Whole wr g t l) (h1 : t ≠ 100) (h2 : t ≠ 71) (hg : B ≤ g) : RwsC B w (wr.setCell ⟨g, i, none⟩ u) v zss := by
  obtain ⟨xs, ho, hc⟩ := h.row
  have hs1 : Stays 100 wr (wr.setCell ⟨g, i, none⟩ u) := Stays.put hw (Ne.symm h1)
  have hs2 : Stays 71 wr (wr.setCell ⟨g, i, none⟩ u) := Stays.put hw (Ne.symm h2)
  refine ⟨⟨xs, ⟨ho.1, ?_⟩, fun i x z h1 h2 => (hc i x z h1 h2).keep hs1⟩, h.bel.setCell (p := ⟨g, i, none⟩) hg u, by simpa [World.setCell] using h.le⟩
  rcases ho.2 with h0 | ⟨g', cap, cur, hv, hB, hh, h3⟩
  · exact .inl h0
  · exact .inr ⟨g', cap, cur, hv, hB, (hs2 g' cur hh).trans hh, h3⟩
theorem RwsC.form (h : RwsC B w wr v zss) : ∃ A cap, v = .slice A zss.length cap ∧ zss.length ≤ cap ∧ cap ≤ maxLen ∧ (A = none → cap = 0) ∧ Lns wr A zss := by
  obtain ⟨xs, ho, hc⟩ := h.row
  have hxl : xs.length = zss.length := by have := ho.1; omega
  rcases ho.2 with ⟨rfl, h0⟩ | ⟨g, cap, cur, rfl, _, hh, hcap, hm, hcs, htake⟩
  · have : zss = [] := List.eq_nil_of_length_eq_zero h0
    subst this
    exact ⟨none, 0, rfl, Nat.le_refl _, Nat.zero_le _, (fun _ => rfl), .inl rfl⟩
  · refine ⟨_, cap, rfl, hcap, hm, (fun h => by cases h), .inr ⟨g, cur, rfl, hh, fun i hi => ?_⟩⟩
    have hx : xs[i]? = some xs[i] := List.getElem?_eq_getElem (by omega)
    refine ⟨xs[i], ?_, hc i _ _ hx (get_lAt zss i hi)⟩
    have := ho.cellAt i (by omega)
    rw [cell_of_row _ g i cur 71 (0, 0) hh, hx] at this
    exact this
end
/-! ### a struct of the document's returned -/
theorem put3 {w : World} {q : Nat} {t : TypeId} {y0 y1 y2 : Value} (hw : Whole w q t [y0, y1, y2]) (x0 x1 x2 : Value) : Whole (((w.setCell ⟨q, 0, none⟩ x0).setCell ⟨q, 1, none⟩ x1).setCell ⟨q, 2, none⟩ x2) q t [x0, x1, x2] := ((hw.put 0 x0).put 1 x1).put 2 x2
theorem below_put3 {B : Nat} {W w : World} {q : Nat} (h : Below B W w) (hq : B ≤ q) (x0 x1 x2 : Value) : Below B W (((w.setCell ⟨q, 0, none⟩ x0).setCell ⟨q, 1, none⟩ x1).setCell ⟨q, 2, none⟩ x2) :=
  ((h.setCell (p := ⟨q, 0, none⟩) hq x0).setCell (p := ⟨q, 1, none⟩) hq x1).setCell (p := ⟨q, 2, none⟩) hq x2
/-! ### cells in blocks of a type, or below C -/
def CelsT (C : Nat) (t : TypeId) (k : IntKind) (w : World) (a : Option Addr) (cs : List Cel) : Prop :=
  cs = [] ∨ ∃ b off, a = some ⟨b, off, none⟩ ∧ (b < C ∨ ∃ cur, w.heap[b]? = some (Obj.cells cur t (0, 0))) ∧ ∀ j v, (flatC k cs)[j]? = some v → w.cell? ⟨b, off + j, none⟩ = some v
section
variable {C : Nat} {t : TypeId} {k : IntKind} {w w' : World} {a : Option Addr} {cs : List Cel}
theorem CelsT.nil : CelsT C t k w a [] := .inl rfl
theorem CelsT.cels (h : CelsT C t k w a cs) : Cels k w a cs := by
  rcases h with h | ⟨b, off, ha, _, hc⟩
  · exact .inl h
  · exact .inr ⟨b, off, ha, hc⟩
theorem CelsT.of_cels (h : Cels k w a cs) : CelsT w.heap.size t k w a cs := by
  rcases h with h | ⟨b, off, ha, hc⟩
  · exact .inl h
  · by_cases q : cs = []
    · exact .inl q
    · have : ∃ v, (flatC k cs)[0]? = some v := by
        have hl := flatC_len k cs
        have : 0 < cs.length := List.length_pos_iff.2 q
        exact ⟨_, List.getElem?_eq_getElem (by omega)⟩
      obtain ⟨v, hv⟩ := this
      exact .inr ⟨b, off, ha, .inl (block_lt_of_cell (hc 0 v hv)), hc⟩
theorem CelsT.keep (h : CelsT C t k w a cs) (hl : ∀ b, b < C → w'.heap[b]? = w.heap[b]?) (hs : Stays t w w') : CelsT C t k w' a cs := by
  rcases h with h | ⟨b, off, ha, hb, hc⟩
  · exact .inl h
  · have e : w'.heap[b]? = w.heap[b]? := by
      rcases hb with hb | ⟨cur, hb⟩
      · exact hl b hb
      · exact hs b cur hb
    refine .inr ⟨b, off, ha, ?_, fun j v hj => ?_⟩
    · rcases hb with hb | ⟨cur, hb⟩
      · exact .inl hb
      · exact .inr ⟨cur, e.trans hb⟩
    · rw [← hc j v hj]; simp only [World.cell?, e]
theorem CelsT.below (h : CelsT C t k w a cs) (hb : Below w.heap.size w w') (hC : C ≤ w.heap.size) : CelsT C t k w' a cs := h.keep (fun b hlt => hb.block b (by omega)) (.of_below hb)
theorem CelsT.more {C' : Nat} (h : CelsT C t k w a cs) (hC : C ≤ C') : CelsT C' t k w a cs := by
  rcases h with h | ⟨b, off, ha, hb, hc⟩
  · exact .inl h
  · exact .inr ⟨b, off, ha, by rcases hb with q | q; exact .inl (by omega); exact .inr q, hc⟩
theorem CelsT.take (h : CelsT C t k w a cs) (n : Nat) : CelsT C t k w a (cs.take n) := by
  rcases h with h | ⟨b, off, ha, hb, hc⟩
  · exact .inl (by simp [h])
  · refine .inr ⟨b, off, ha, hb, fun j v hj => ?_⟩
    rw [flatC_take, List.getElem?_take] at hj
    split at hj
    · exact hc j v hj
    · cases hj
theorem flat_from {b off n : Nat} (h : ∀ j v, (flatC k cs)[j]? = some v → w.cell? ⟨b, off + j, none⟩ = some v) : ∀ j v, (flatC k (cs.drop n))[j]? = some v → w.cell? ⟨b, off + n * 7 + j, none⟩ = some v := by
  intro j v hj
  rw [flatC_drop, List.getElem?_drop] at hj
  rw [Nat.add_assoc]
  exact h _ v hj
/-- A part of a row, known by its place. -/
theorem CelsT.from {b off : Nat} (h : CelsT C t k w (some ⟨b, off, none⟩) cs) (n : Nat) : CelsT C t k w (some ⟨b, off + n * 7, none⟩) (cs.drop n) := by
  rcases h with h | ⟨b', off', ha, hb, hc⟩
  · exact .inl (by simp [h])
  · cases ha
    exact .inr ⟨b, off + n * 7, rfl, hb, flat_from hc⟩
theorem OwnC.typed {B : Nat} {wr : World} {v : Value} (h : OwnC t k B w wr v cs) : ∃ A cap, v = .slice A cs.length cap ∧ CelsT C t k wr A cs ∧ cs.length ≤ cap ∧ (A = none → cap = 0) ∧ cap ≤ maxLen := by
  obtain ⟨A, cap, rfl, hc, h1, h2, h3⟩ := h.form
  refine ⟨A, cap, rfl, ?_, h1, h2, h3⟩
  rcases h.own.2 with ⟨e, h0⟩ | ⟨g, cap', cur, e, _, hh, _, _, _, _⟩
  · exact .inl (List.eq_nil_of_length_eq_zero h0)
  · simp only [Value.slice.injEq] at e
    obtain ⟨rfl, -, -⟩ := e
    rcases hc with hc | ⟨b, off, ha, hc⟩
    · exact .inl hc
    · cases ha
      exact .inr ⟨_, _, rfl, .inr ⟨cur, hh⟩, hc⟩
end

/-! ### spans -/
/-- A span, and where its cells lie. -/
structure Sa where
  s : Sp
  A : Option Addr
  c : Nat
def saL (x : Sa) : List Value := [.int .i64 x.s.row, .int .i64 x.s.col, .slice x.A x.s.cs.length x.c]
def flatS (l : List Sa) : List Value := l.flatMap saL
def SaOk (C : Nat) (t : TypeId) (k : IntKind) (w : World) (x : Sa) : Prop := CelsT C t k w x.A x.s.cs ∧ x.s.cs.length ≤ x.c ∧ (x.A = none → x.c = 0)
theorem flatS_len (l : List Sa) : (flatS l).length = l.length * 3 := by
  induction l with
  | nil => rfl
  | cons c cs ih => unfold flatS at ih ⊢; rw [List.flatMap_cons, List.length_append, ih, List.length_cons]; show 3 + _ = _; omega
theorem flatS_append (a b : List Sa) : flatS (a ++ b) = flatS a ++ flatS b := by unfold flatS; simp
theorem flatS_get (l : List Sa) : ∀ (i d : Nat), d < 3 → (flatS l)[i * 3 + d]? = (l[i]?).bind (fun c => (saL c)[d]?) := by
  induction l with
  | nil => intro i d _; simp [flatS]
  | cons c cs ih =>
    intro i d hd
    have hl : (saL c).length = 3 := rfl
    unfold flatS at ih ⊢
    rw [List.flatMap_cons]
    cases i with
    | zero => rw [List.getElem?_append_left (by omega)]; simp
    | succ i =>
      rw [List.getElem?_append_right (by omega), hl, show (i + 1) * 3 + d - 3 = i * 3 + d by omega, ih i d hd]
      simp
theorem flatS_one (l : List Sa) : ∀ u ∈ flatS l, u.oneCell' = true := by
  intro u hu
  unfold flatS at hu
  obtain ⟨c, _, hc⟩ := List.mem_flatMap.1 hu
  simp only [saL, List.mem_cons, List.not_mem_nil, or_false] at hc
  rcases hc with rfl | rfl | rfl <;> rfl
theorem SaOk.keep {C : Nat} {t : TypeId} {k : IntKind} {w w' : World} {x : Sa} (h : SaOk C t k w x) (hl : ∀ b, b < C → w'.heap[b]? = w.heap[b]?) (hs : Stays t w w') : SaOk C t k w' x := ⟨h.1.keep hl hs, h.2⟩

/-- A slice of spans, in a block of type te or below C; their cells in blocks of type t or below C. -/
def Sps (C : Nat) (te t : TypeId) (k : IntKind) (w : World) (A : Option Addr) (ss : List Sp) : Prop :=
  ∃ l : List Sa, l.map (·.s) = ss ∧ (∀ x ∈ l, SaOk C t k w x) ∧ (l = [] ∨ ∃ b off, A = some ⟨b, off, none⟩ ∧ (b < C ∨ ∃ cur, w.heap[b]? = some (Obj.cells cur te (0, 0))) ∧ ∀ j v, (flatS l)[j]? = some v → w.cell? ⟨b, off + j, none⟩ = some v)
section
variable {C : Nat} {te t : TypeId} {k : IntKind} {w w' : World} {A : Option Addr} {ss : List Sp}
theorem Sps.nil : Sps C te t k w A [] := ⟨[], rfl, by simp, .inl rfl⟩
theorem Sps.keep (h : Sps C te t k w A ss) (hl : ∀ b, b < C → w'.heap[b]? = w.heap[b]?) (hs : Stays t w w') (ht : Stays te w w') : Sps C te t k w' A ss := by
  obtain ⟨l, he, hok, h⟩ := h
  refine ⟨l, he, fun x hx => (hok x hx).keep hl hs, ?_⟩
  rcases h with h | ⟨b, off, ha, hb, hc⟩
  · exact .inl h
  · have e : w'.heap[b]? = w.heap[b]? := by
      rcases hb with hb | ⟨cur, hb⟩
      · exact hl b hb
      · exact ht b cur hb
    refine .inr ⟨b, off, ha, ?_, fun j v hj => ?_⟩
    · rcases hb with hb | ⟨cur, hb⟩
      · exact .inl hb
      · exact .inr ⟨cur, e.trans hb⟩
    · rw [← hc j v hj]; simp only [World.cell?, e]
theorem Sps.below (h : Sps C te t k w A ss) (hb : Below w.heap.size w w') (hC : C ≤ w.heap.size) : Sps C te t k w' A ss := h.keep (fun b hlt => hb.block b (by omega)) (.of_below hb) (.of_below hb)
theorem Sps.at (h : Sps C te t k w A ss) {i : Nat} (hi : i < ss.length) : ∃ b off A' c', A = some ⟨b, off, none⟩ ∧ b < w.heap.size ∧ w.cell? ⟨b, off + i * 3, none⟩ = some (.int .i64 (sAt ss i).row) ∧
    w.cell? ⟨b, off + i * 3 + 1, none⟩ = some (.int .i64 (sAt ss i).col) ∧ w.cell? ⟨b, off + i * 3 + 2, none⟩ = some (.slice A' (sAt ss i).cs.length c') ∧ CelsT C t k w A' (sAt ss i).cs ∧ (sAt ss i).cs.length ≤ c' ∧ (A' = none → c' = 0) := by
  obtain ⟨l, rfl, hok, h⟩ := h
  rw [List.length_map] at hi
  rcases h with rfl | ⟨b, off, ha, hb, hc⟩
  · simp at hi
  · have hx : l[i]? = some l[i] := List.getElem?_eq_getElem hi
    have he : sAt (l.map (·.s)) i = l[i].s := by unfold sAt; rw [List.getD_eq_getElem?_getD, List.getElem?_map, hx]; rfl
    have g : ∀ d v, d < 3 → (saL l[i])[d]? = some v → w.cell? ⟨b, off + i * 3 + d, none⟩ = some v := by
      intro d v hd hv
      rw [Nat.add_assoc]
      exact hc _ v (by rw [flatS_get l i d hd, hx]; exact hv)
    have g0 := g 0 _ (by omega) rfl
    obtain ⟨o1, o2, o3⟩ := hok _ (List.getElem_mem hi)
    refine ⟨b, off, l[i].A, l[i].c, ha, block_lt_of_cell g0, ?_, ?_, ?_, ?_, ?_, ?_⟩
    · rw [he]; exact g0
    · rw [he]; exact g 1 _ (by omega) rfl
    · rw [he]; exact g 2 _ (by omega) rfl
    · rw [he]; exact o1
    · rw [he]; exact o2
    · exact o3
end

/-! ### rows of spans that a call makes -/
structure ElemS (P : Program) (S e : TypeId) (bytes : Nat) : Prop where
  under : P.underlying S = some (.slice e)
  info : (P.info? e).map (fun i => (i.zero, i.size, i.bytes)) = some (some (.agg #[.int .i64 0, .int .i64 0, .slice none 0 0]), 3, bytes)
theorem elemSp : ElemS Tryz.prog 23 68 40 := ⟨Tryz.underlying23, by kernel_rfl⟩
theorem elemRSp : ElemS Tryz.prog 30 73 40 := ⟨Tryz.underlying30, by kernel_rfl⟩
structure OwnS (C : Nat) (te t : TypeId) (k : IntKind) (B : Nat) (w wr : World) (v : Value) (ss : List Sp) : Prop where
  row : ∃ l : List Sa, l.map (·.s) = ss ∧ wr.ownsRow B te 3 v l.length (flatS l) ∧ ∀ x ∈ l, SaOk C t k wr x
  bel : Below B w wr
  le : B ≤ wr.heap.size
  cle : C ≤ B
section
variable {C : Nat} {te t : TypeId} {k : IntKind} {B : Nat} {w wr w1 : World} {v : Value} {ss : List Sp}
theorem OwnS.start (hB : B ≤ w.heap.size) (hC : C ≤ B) : OwnS C te t k B w w (.slice none 0 0) [] := ⟨⟨[], rfl, World.ownsRow_nil _ _ _ _, by simp⟩, Below.refl _ _, hB, hC⟩
theorem OwnS.from0 (hB : B ≤ wr.heap.size) (hb : Below B w wr) (hC : C ≤ B) : OwnS C te t k B w wr (.slice none 0 0) [] := ⟨⟨[], rfl, World.ownsRow_nil _ _ _ _, by simp⟩, hb, hB, hC⟩
theorem OwnS.now (h : OwnS C te t k B w wr v ss) : OwnS C te t k B wr wr v ss := ⟨h.row, Below.refl _ _, h.le, h.cle⟩
theorem OwnS.since (h : OwnS C te t k B wr wr v ss) (hb : Below B w wr) : OwnS C te t k B w wr v ss := ⟨h.row, hb, h.le, h.cle⟩
theorem OwnS.form (h : OwnS C te t k B w wr v ss) : ∃ A cap, v = .slice A ss.length cap ∧ Sps C te t k wr A ss ∧ ss.length ≤ cap ∧ (A = none → cap = 0) ∧ cap ≤ maxLen := by
  obtain ⟨l, rfl, ho, hok⟩ := h.row
  rw [List.length_map]
  rcases ho.2 with ⟨rfl, h0⟩ | ⟨g, cap, cur, rfl, _, hh, hc, hm, _, _⟩
  · have : l = [] := List.eq_nil_of_length_eq_zero h0
    subst this
    exact ⟨none, 0, rfl, .nil, Nat.le_refl _, fun _ => rfl, Nat.zero_le _⟩
  · refine ⟨_, cap, rfl, ⟨l, rfl, hok, .inr ⟨g, 0, rfl, .inr ⟨cur, hh⟩, fun i v hi => ?_⟩⟩, hc, (fun h => by cases h), hm⟩
    have := ho.cells (g := g) rfl i v hi
    rwa [show (⟨g, 0, none⟩ : Addr).add i = ⟨g, 0 + i, none⟩ by unfold Addr.add; split <;> simp_all] at this
theorem OwnS.slice (h : OwnS C te t k B w wr v ss) : ∃ A n cap, v = .slice A n cap := by obtain ⟨A, cap, e, _⟩ := h.form; exact ⟨A, _, cap, e⟩
/-- Where blocks of its types, and those below C, stay. -/
theorem OwnS.keep (h : OwnS C te t k B wr wr v ss) (hl : ∀ b, b < C → w1.heap[b]? = wr.heap[b]?) (hs : Stays t wr w1) (ht : Stays te wr w1) (hz : wr.heap.size ≤ w1.heap.size) : OwnS C te t k B w1 w1 v ss := by
  obtain ⟨l, he, ho, hok⟩ := h.row
  refine ⟨⟨l, he, ⟨ho.1, ?_⟩, fun x hx => (hok x hx).keep hl hs⟩, Below.refl _ _, Nat.le_trans h.le hz, h.cle⟩
  rcases ho.2 with h0 | ⟨g, cap, cur, hv, hB, hh, h1⟩
  · exact .inl h0
  · exact .inr ⟨g, cap, cur, hv, hB, (ht g cur hh).trans hh, h1⟩
theorem OwnS.later (h : OwnS C te t k B w wr v ss) (hb : Below wr.heap.size wr w1) : OwnS C te t k B w w1 v ss :=
  (h.now.keep (fun b hlt => hb.block b (by have := h.le; have := h.cle; omega)) (.of_below hb) (.of_below hb) hb.size).since (h.bel.trans (hb.mono h.le))
theorem OwnS.alloc (h : OwnS C te t k B w wr v ss) (o : Obj) : OwnS C te t k B w (wr.alloc o) v ss := h.later ((Below.refl _ _).alloc (Nat.le_refl _) _)
/-- A store into a block of another type. -/
theorem OwnS.put (h : OwnS C te t k B w wr v ss) {g i : Nat} {t' : TypeId} {l : List Value} {u : Value} (hw : Whole wr g t' l) (h1 : t' ≠ t) (h2 : t' ≠ te) (hg : B ≤ g) : OwnS C te t k B w (wr.setCell ⟨g, i, none⟩ u) v ss :=
  (h.now.keep (fun b hlt => Below.heap_setCell _ _ _ _ (by have := h.cle; simp; omega)) (Stays.put hw (Ne.symm h1)) (Stays.put hw (Ne.symm h2)) (by simp [World.setCell])).since (h.bel.setCell (p := ⟨g, i, none⟩) hg u)
theorem OwnS.grown {v' : Value} {l : List Sa} {ns : List Sa} (h : OwnS C te t k B w wr v ss) (he : l.map (·.s) = ss) (hrow : wr.ownsRow B te 3 v l.length (flatS l)) (hok : ∀ x ∈ l, SaOk C t k wr x) (hns : ∀ x ∈ ns, SaOk C t k wr x) (h3 : te ≠ t)
    (h1 : w1.ownsRow B te 3 v' (l.length + ns.length) (flatS l ++ flatS ns)) (hg : wr.grownBy w1 v.ownBlock) : OwnS C te t k B w w1 v' (ss ++ ns.map (·.s)) ∧ (∀ t', t' ≠ te → Stays t' wr w1) ∧ Below B wr w1 := by
  have far : ∀ t', t' ≠ te → Stays t' wr w1 := by
    intro t' ht g cur hh
    refine hg.block g (Array.getElem?_eq_some_iff.1 hh).1 ?_
    intro q
    rcases hrow.2 with ⟨rfl, _⟩ | ⟨g2, cap, cur2, rfl, _, hh2, _⟩
    · cases q
    · have : g = g2 := by simpa [Value.ownBlock] using q
      subst this
      rw [hh] at hh2
      simp only [Option.some.injEq, Obj.cells.injEq] at hh2
      exact ht hh2.2.1
  have hb1 : Below B wr w1 := (Below.refl _ _).grown hg h.le (own_ge hrow)
  have low : ∀ b, b < C → w1.heap[b]? = wr.heap[b]? := fun b hlt => hb1.block b (by have := h.cle; omega)
  refine ⟨⟨⟨l ++ ns, by rw [List.map_append, he], by simpa [flatS_append] using h1, ?_⟩, h.bel.grown hg h.le (own_ge hrow), Nat.le_trans h.le hg.size, h.cle⟩, far, hb1⟩
  intro x hx
  rcases List.mem_append.1 hx with q | q
  · exact (hok x q).keep low (far t (Ne.symm h3))
  · exact (hns x q).keep low (far t (Ne.symm h3))
end
theorem cells_new3S (w : World) (l : List Value) (t : TypeId) : ∀ j u, l[j]? = some u → (w.alloc (.cells l.toArray t)).cell? ((⟨w.heap.size, 0, none⟩ : Addr).add j) = some u := by
  intro j u hj
  rw [show (⟨w.heap.size, 0, none⟩ : Addr).add j = ⟨w.heap.size, j, none⟩ by unfold Addr.add; split <;> simp_all, (Whole.new w t l).cell j, hj]
/-- 'append(row, s)', s in a block of its own. -/
theorem wpList_pushS {P : Program} {S te t : TypeId} {k : IntKind} {bytes : Nat} (E : ElemS P S te bytes) {ops : Array Oper} {rest : List Oper} {o : Oper} {a : Act} {Q : Exit → Act → World → Prop} {C B : Nat} {w wr : World} {v : Value} {ss : List Sp} (r cl : Int) (N : Option Addr) (c : Nat) (cs : List Cel) (n : Nat) (hn : cs.length = n) (hi : CelsT C t k wr N cs) (hnc : n ≤ c) (h0 : N = none → c = 0)
    (hgd : Region.wanted o (yielded ops a.tmps) = true) (s y : Operand) (ho : o.op = .call { callee := .builtin .append, args := #[s, y], argTypes := #[S, S] })
    (hs : a.eval s = v) (hy : a.eval y = .slice (some ⟨wr.heap.size, 0, none⟩) 1 1) (hown : OwnS C te t k B w wr v ss) (hlen : ss.length ≤ 1000000) (hby : bytes ≤ 1000) (h3 : te ≠ t)
    (h : ∀ v' w1, OwnS C te t k B w w1 v' (ss ++ [⟨r, cl, cs⟩]) → (∀ t', t' ≠ te → Stays t' (wr.alloc (.cells #[.int .i64 r, .int .i64 cl, .slice N n c] te)) w1) → Below B (wr.alloc (.cells #[.int .i64 r, .int .i64 cl, .slice N n c] te)) w1 → wpList P ops Q rest (a.put o.dst v') w1) :
    wpList P ops Q (o :: rest) a (wr.alloc (.cells #[.int .i64 r, .int .i64 cl, .slice N n c] te)) := by
  subst hn
  obtain ⟨i0, hi0, hz0, hz1, hz2⟩ := info_parts E.info
  have hown' := hown.alloc (.cells #[.int .i64 r, .int .i64 cl, .slice N cs.length c] te)
  obtain ⟨l, he, hrow, hok⟩ := hown'.row
  have hl : l.length = ss.length := by rw [← he, List.length_map]
  have hb : (l.length + 1) * bytes ≤ 1000001 * 1000 := Nat.mul_le_mul (by omega) hby
  have hx : SaOk C t k (wr.alloc (.cells #[.int .i64 r, .int .i64 cl, .slice N cs.length c] te)) ⟨⟨r, cl, cs⟩, N, c⟩ := ⟨hi.below ((Below.refl _ _).alloc (Nat.le_refl _) _) (by have := hown.le; have := hown.cle; omega), hnc, h0⟩
  refine wpList_want hgd fun K hK => ?_
  refine wp_append_own _ s y S ho B te i0 _ 3 bytes E.under hi0 hz0 hz1 hz2 rfl (by decide) v l.length _ hs hrow ⟨wr.heap.size, 0, none⟩ 1 1 (saL ⟨⟨r, cl, cs⟩, N, c⟩) hy rfl (cells_new3S _ (saL ⟨⟨r, cl, cs⟩, N, c⟩) te) (by have := flatS_one [⟨⟨r, cl, cs⟩, N, c⟩]; simpa [flatS] using this)
    (by unfold maxLen; omega) (by omega) (by have := hown.le; simp; omega) ?_
  intro v' w1 h1 hg _
  obtain ⟨q1, q2, q3⟩ := hown'.grown (ns := [⟨⟨r, cl, cs⟩, N, c⟩]) he hrow hok (by intro x hx'; simp at hx'; subst hx'; exact hx) h3 (by simpa [flatS] using h1) hg
  exact hK _ _ (h v' w1 q1 q2 q3)

/-! ### differences -/
/-- A struct of the program's or the document's: a difference. -/
def dV (d : Df) (A : Option Addr) (c : Nat) : Value := .agg #[.int .i64 d.rows, .int .i64 d.cols, .int .i64 d.row, .int .i64 d.col, .slice A d.ss.length c]
/-- What is known of one. -/
structure DfOk (C : Nat) (te t : TypeId) (k : IntKind) (w : World) (d : Df) (A : Option Addr) (c : Nat) : Prop where
  sps : Sps C te t k w A d.ss
  cap : d.ss.length ≤ c
  none : A = none → c = 0
  cle : C ≤ w.heap.size
theorem DfOk.below {C : Nat} {te t : TypeId} {k : IntKind} {w w' : World} {d : Df} {A : Option Addr} {c : Nat} (h : DfOk C te t k w d A c) (hb : Below w.heap.size w w') : DfOk C te t k w' d A c := ⟨h.sps.below hb h.cle, h.cap, h.none, Nat.le_trans h.cle hb.size⟩
/-- The call gave this difference, and left all that was there. -/
def GaveDf (te t : TypeId) (k : IntKind) (d : Df) (w : World) (e : Ending) (w' : World) : Prop := ∃ A c, e = .returned (.agg #[.int .i64 d.rows, .int .i64 d.cols, .int .i64 d.row, .int .i64 d.col, .slice A d.ss.length c]) ∧ DfOk w.heap.size te t k w' d A c ∧ Below w.heap.size w w'
theorem cells5 {w : World} {q : Nat} {t : TypeId} {x0 x1 x2 x3 x4 : Value} (h : Whole w q t [x0, x1, x2, x3, x4]) : w.cell? ⟨q, 0, none⟩ = some x0 ∧ w.cell? ⟨q, 1, none⟩ = some x1 ∧ w.cell? ⟨q, 2, none⟩ = some x2 ∧ w.cell? ⟨q, 3, none⟩ = some x3 ∧ w.cell? ⟨q, 4, none⟩ = some x4 ∧ q < w.heap.size :=
  ⟨h.cell 0, h.cell 1, h.cell 2, h.cell 3, h.cell 4, h.lt⟩
end
end Go.Proofs.YtcbdokocnjoilaaGreatDoor
