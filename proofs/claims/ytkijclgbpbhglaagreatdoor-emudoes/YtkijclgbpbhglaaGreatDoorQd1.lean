/-
  Contracts and plain mathematics of WMath, CMath, LMath, Kit, Mem, Words, Row, CEq.
-/
import Derived.WalkKit
import Derived.WalkSpells
import Derived.ProofKit
import Derived.OpenShut
import Derived.Maps.AppendAt
import Derived.Deep.Draws
import Derived.Deep.QuietTactic
import Derived.BigQuiet
import Derived.Laws.AppendOwnNone
import Derived.Laws.BytesString
import Derived.Laws.IdiomStrings
import Derived.Deep.AppendLies
import Derived.WalkMore
import Derived.Test.YtkijclgbpbhglaaGreatDoorChecked
import Derived.Laws.StructEq
import Derived.ChangeKeysEq
namespace Go.Proofs.YtkijclgbpbhglaaGreatDoor
set_option maxRecDepth 100000
set_option linter.unusedVariables false
set_option maxHeartbeats 8000000
def isSc (r : Int) : Bool := decide (0 ≤ r ∧ r ≤ 1114111 ∧ (r < 55296 ∨ 57343 < r))
def inB (r : Int) : List Int → Bool
 | a :: b :: l => (decide (a ≤ r) && decide (r ≤ b)) || inB r l
 | _ => false
def marks : List Int := [768, 879, 8203, 8207, 8400, 8447, 65024, 65039, 65056, 65071]
def wides : List Int := [4352, 4447, 11904, 12350, 12353, 42191, 44032, 55203, 63744, 64255, 65072, 65135, 65280, 65376, 65504, 65510, 127744, 128591, 129280, 129535, 131072, 262141]
def wOf (r : Int) : Int :=
 if r < 32 ∨ inB r [127, 159] = true ∨ isSc r = false then -1 else if inB r marks = true then 0 else if inB r wides = true then 2 else 1
theorem wOf_range (r : Int) : wOf r = -1 ∨ wOf r = 0 ∨ wOf r = 1 ∨ wOf r = 2 := by
 unfold wOf; split; simp; split; simp; split <;> simp
def pos (r : Int) : Int := if 0 < wOf r then wOf r else 0
structure Pn where
 f : Nat
 g : Nat
 b : Nat
deriving DecidableEq
def zeroP : Pn := ⟨0, 0, 0⟩
def rightN (p : Pn) : Bool := decide (p.f ≤ 31) && (decide (p.g ≤ 16) && decide (p.b ≤ 16))
structure Cel where
 r : Int
 m : Int
 n : Int
 w : Nat
 p : Pn
deriving DecidableEq
def zeroC : Cel := ⟨0, 0, 0, 0, zeroP⟩
def blankC (p : Pn) : Cel := ⟨32, 0, 0, 1, p⟩
def restC (c : Cel) : Cel := ⟨0, 0, 0, 0, c.p⟩
def ofC (r : Int) (p : Pn) : Cel × Bool := if wOf r = 1 then (⟨r, 0, 0, 1, p⟩, true) else if wOf r = 2 then (⟨r, 0, 0, 2, p⟩, true) else (zeroC, false)
def bearsC (c : Cel) : Bool := decide (c.w = 1 ∨ c.w = 2)
def markC (c : Cel) (r : Int) : Cel × Bool :=
 if wOf r = 0 ∧ bearsC c = true then (if c.m = 0 then ({ c with m := r }, true) else if c.n = 0 then ({ c with n := r }, true) else (c, false)) else (c, false)
def marksC (m n : Int) : Bool := if m = 0 then decide (n = 0) else decide (wOf m = 0) && (decide (n = 0) || decide (wOf n = 0))
def rightC (c : Cel) : Bool :=
 rightN c.p && (if c.w = 0 then decide (c.r = 0 ∧ c.m = 0 ∧ c.n = 0) else if bearsC c = true then decide (wOf c.r = c.w) && marksC c.m c.n else false)
def runesC (c : Cel) : List Int := if bearsC c = true then [c.r] ++ (if c.m = 0 then [] else [c.m]) ++ (if c.n = 0 then [] else [c.n]) else []
theorem wOf_zero : wOf 0 = -1 := by decide
theorem wOf_32 : wOf 32 = 1 := by decide +kernel
theorem right_pen {c : Cel} (h : rightC c = true) : rightN c.p = true := by
 unfold rightC at h; simp only [Bool.and_eq_true] at h; exact h.1
theorem right_rest {c : Cel} (h : rightC c = true) : rightC (restC c) = true := by
 have := right_pen h
 unfold rightC restC; simp [this]
theorem right_blank {p : Pn} (h : rightN p = true) : rightC (blankC p) = true := by
 unfold rightC blankC; simp [h, bearsC, wOf_32, marksC]
theorem mark_ne {r : Int} (h : wOf r = 0) : r ≠ 0 := by rintro rfl; rw [wOf_zero] at h; cases h
theorem right_mark {c : Cel} {r : Int} (h : rightC c = true) : rightC (markC c r).1 = true := by
 unfold markC
 by_cases h1 : wOf r = 0 ∧ bearsC c = true
 ·rw [if_pos h1]
  obtain ⟨h1, h2⟩ := h1
  have h0 : c.w ≠ 0 := by intro q; unfold bearsC at h2; simp [q] at h2
  unfold rightC at h
  simp only [Bool.and_eq_true, if_neg h0, if_pos h2] at h
  obtain ⟨hp, hw, hm⟩ := h
  have hn := mark_ne h1
  by_cases hm0 : c.m = 0
  ·rw [if_pos hm0]
   have hn0 : c.n = 0 := by unfold marksC at hm; simpa [hm0] using hm
   unfold rightC
   simp only [Bool.and_eq_true, if_neg h0]
   refine ⟨hp, ?_⟩
   refine (if_pos (show bearsC _ = true from h2)).trans ?_
   simp only [Bool.and_eq_true]
   refine ⟨hw, ?_⟩
   unfold marksC; simp [hn, h1, hn0]
  ·rw [if_neg hm0]
   by_cases hn0 : c.n = 0
   ·rw [if_pos hn0]
    unfold rightC
    simp only [Bool.and_eq_true, if_neg h0]
    refine ⟨hp, ?_⟩
    refine (if_pos (show bearsC _ = true from h2)).trans ?_
    simp only [Bool.and_eq_true]
    refine ⟨hw, ?_⟩
    unfold marksC at hm ⊢
    simp only [hm0, if_false, Bool.and_eq_true, decide_eq_true_iff] at hm ⊢
    exact ⟨hm.1, by simp [h1]⟩
   ·rw [if_neg hn0]
    unfold rightC
    simp only [Bool.and_eq_true, if_neg h0, if_pos h2]
    exact ⟨hp, hw, hm⟩
 ·rw [if_neg h1]; exact h
theorem runes_len (c : Cel) : (runesC c).length ≤ 3 := by
 unfold runesC; split
 ·split <;> split <;> simp
 ·simp
def cAt (l : List Cel) (i : Nat) : Cel := l.getD i zeroC
def wAt (l : List Cel) (i : Nat) : Nat := ((l[i]?).map (·.w)).getD 9
def tab (n : Nat) (f : Nat → Cel) : List Cel := (List.range n).map f
theorem tab_len (n : Nat) (f : Nat → Cel) : (tab n f).length = n := by simp [tab]
theorem tab_get (n : Nat) (f : Nat → Cel) (i : Nat) (h : i < n) : (tab n f)[i]? = some (f i) := by simp [tab, h]
theorem tab_no (n : Nat) (f : Nat → Cel) (i : Nat) (h : n ≤ i) : (tab n f)[i]? = none := by simp [tab, h]
theorem tab_cAt (n : Nat) (f : Nat → Cel) (i : Nat) (h : i < n) : cAt (tab n f) i = f i := by
 unfold cAt; rw [List.getD_eq_getElem?_getD, tab_get n f i h]; rfl
theorem tab_snoc (n : Nat) (f : Nat → Cel) : tab (n + 1) f = tab n f ++ [f n] := by simp [tab, List.range_succ]
theorem get_cAt (l : List Cel) (i : Nat) (h : i < l.length) : l[i]? = some (cAt l i) := by
 unfold cAt; rw [List.getD_eq_getElem?_getD, List.getElem?_eq_getElem h]; rfl
theorem tab_self (l : List Cel) : tab l.length (cAt l) = l := by
 apply List.ext_getElem?
 intro i
 by_cases h : i < l.length
 ·rw [tab_get _ _ _ h, get_cAt l i h]
 ·rw [tab_no _ _ _ (by omega), List.getElem?_eq_none (by omega)]
theorem tab_eq {n : Nat} {f g : Nat → Cel} (h : ∀ i, i < n → f i = g i) : tab n f = tab n g := by
 apply List.ext_getElem?
 intro i
 by_cases hi : i < n
 ·rw [tab_get _ _ _ hi, tab_get _ _ _ hi, h i hi]
 ·rw [tab_no _ _ _ (by omega), tab_no _ _ _ (by omega)]
theorem tab_is {l : List Cel} {n : Nat} {f : Nat → Cel} (hn : l.length = n) (h : ∀ i, i < n → cAt l i = f i) : l = tab n f := by
 subst hn; rw [← tab_eq h, tab_self]
theorem wAt_in (l : List Cel) (i : Nat) (h : i < l.length) : wAt l i = (cAt l i).w := by unfold wAt; rw [get_cAt l i h]; rfl
theorem wAt_out (l : List Cel) (i : Nat) (h : l.length ≤ i) : wAt l i = 9 := by unfold wAt; rw [List.getElem?_eq_none h]; rfl
theorem tab_set (n : Nat) (f : Nat → Cel) (k : Nat) (c : Cel) : (tab n f).set k c = tab n (fun i => if i = k then c else f i) := by
 apply List.ext_getElem?
 intro i
 rw [List.getElem?_set, tab_len]
 by_cases hi : i < n
 ·rw [tab_get _ _ _ hi, tab_get _ _ _ hi]
  by_cases hk : k = i
  ·subst hk; simp [hi]
  ·simp [hk, Ne.symm hk]
 ·rw [tab_no _ _ _ (by omega), tab_no _ _ _ (by omega)]
  by_cases hk : k = i
  ·subst hk; simp [hi]
  ·simp [hk]
theorem set_tab (l : List Cel) (k : Nat) (c : Cel) : l.set k c = tab l.length (fun i => if i = k then c else cAt l i) := by
 conv => lhs; rw [← tab_self l]
 exact tab_set _ _ _ _
def aloneC (l : List Cel) (i : Nat) : Bool :=
 if wAt l i = 2 then decide (wAt l (i + 1) ≠ 0) else if wAt l i = 0 then decide (i = 0 ∨ wAt l (i - 1) ≠ 2) else false
def mendAt (l : List Cel) (i : Nat) : Cel := if aloneC l i = true then blankC (cAt l i).p else cAt l i
def mendC (l : List Cel) : List Cel := tab l.length (mendAt l)
theorem mend_len (l : List Cel) : (mendC l).length = l.length := tab_len _ _
def lenN (n : Int) : Nat := (min (max n 0) 512).toNat
theorem lenN_le (n : Int) : lenN n ≤ 512 := by unfold lenN; omega
def newC (n : Int) : List Cel := tab (lenN n) (fun _ => blankC zeroP)
def putTab (l : List Cel) (k : Nat) (c : Cel) : List Cel := tab l.length (fun i => if i = k then c else if i = k + 1 ∧ c.w = 2 then restC c else cAt l i)
def putOk (l : List Cel) (at_ : Int) (c : Cel) : Bool := decide (rightC c = true ∧ c.w ≠ 0 ∧ 0 ≤ at_ ∧ at_ + (c.w : Int) ≤ (l.length : Int))
def putC (l : List Cel) (at_ : Int) (c : Cel) : List Cel := if putOk l at_ c = true then mendC (putTab l at_.toNat c) else l
def eraseTab (l : List Cel) (from_ to : Int) (p : Pn) : List Cel := tab l.length (fun i => if from_ ≤ (i : Int) ∧ (i : Int) < to then blankC p else cAt l i)
def eraseC (l : List Cel) (from_ to : Int) (p : Pn) : List Cel := mendC (eraseTab l from_ to p)
def fitTab (l : List Cel) (n : Int) : List Cel := tab (lenN n) (fun i => if i < l.length then cAt l i else blankC zeroP)
def fitC (l : List Cel) (n : Int) : List Cel := mendC (fitTab l n)
def mkAt (l : List Cel) (k : Nat) : Nat := if wAt l k = 0 ∧ 0 < k ∧ wAt l (k - 1) = 2 then k - 1 else k
def lmarkC (l : List Cel) (at_ r : Int) : List Cel × Bool :=
 if 0 ≤ at_ ∧ at_ < (l.length : Int) then (l.set (mkAt l at_.toNat) (markC (cAt l (mkAt l at_.toNat)) r).1, (markC (cAt l (mkAt l at_.toNat)) r).2) else (l, false)
def okAt (l : List Cel) (i : Nat) : Bool := rightC (cAt l i) && (!(aloneC l i) && (!(decide (wAt l i = 0)) || decide ((cAt l i).p = (cAt l (i - 1)).p)))
def okP (l : List Cel) (i : Nat) : Bool := rightC (cAt l i) && (!(aloneC l i) && (!(decide (wAt l i = 2)) || decide (cAt l (i + 1) = restC (cAt l i))))
def rightL (l : List Cel) : Bool := decide (∀ i, i < l.length → okAt l i = true)
def mixC (l : List Cel) (k : Nat) : List Cel := tab l.length (fun i => if i < k then mendAt l i else cAt l i)
theorem mix_len (l : List Cel) (k : Nat) : (mixC l k).length = l.length := tab_len _ _
theorem mix_0 (l : List Cel) : mixC l 0 = l := by
 unfold mixC
 conv => rhs; rw [← tab_self l]
 exact tab_eq fun i _ => by simp
theorem mix_all (l : List Cel) (k : Nat) (h : l.length ≤ k) : mixC l k = mendC l := tab_eq fun i hi => by rw [if_pos (by omega)]
theorem mix_at (l : List Cel) (k i : Nat) (hi : i < l.length) : cAt (mixC l k) i = if i < k then mendAt l i else cAt l i := tab_cAt _ _ _ hi
theorem mix_self (l : List Cel) (k : Nat) (h : k < l.length) : cAt (mixC l k) k = cAt l k := by rw [mix_at l k k h]; simp
theorem mendAt_no (l : List Cel) (k : Nat) (h : aloneC l k = false) : mendAt l k = cAt l k := by unfold mendAt; simp [h]
theorem mendAt_yes (l : List Cel) (k : Nat) (h : aloneC l k = true) : mendAt l k = blankC (cAt l k).p := by unfold mendAt; simp [h]
theorem mix_next (l : List Cel) (k : Nat) : mixC l (k + 1) = (mixC l k).set k (mendAt l k) := by
 unfold mixC
 rw [tab_set]
 refine tab_eq fun i hi => ?_
 by_cases h : i = k
 ·subst h; simp
 ·by_cases h2 : i < k
  ·simp [h, h2, show i < k + 1 by omega]
  ·simp [h, h2, show ¬ i < k + 1 by omega]
theorem mix_stay (l : List Cel) (k : Nat) (h : k < l.length) (ha : aloneC l k = false) : mixC l (k + 1) = mixC l k := by
 rw [mix_next, mendAt_no l k ha]
 unfold mixC
 rw [tab_set]
 refine tab_eq fun i hi => ?_
 by_cases h : i = k
 ·subst h; simp
 ·simp [h]
theorem mendAt_w (l : List Cel) (i : Nat) (hi : i < l.length) : (mendAt l i).w = 2 ↔ (wAt l i = 2 ∧ aloneC l i = false) := by
 unfold mendAt
 rw [wAt_in l i hi]
 cases h : aloneC l i <;> simp [blankC]
theorem mix_alone (l : List Cel) (k : Nat) (hk : k < l.length) : aloneC (mixC l k) k = aloneC l k := by
 have e0 : wAt (mixC l k) k = wAt l k := by
  rw [wAt_in _ _ (by rw [mix_len]; exact hk), wAt_in _ _ hk, mix_self l k hk]
 have e1 : wAt (mixC l k) (k + 1) = wAt l (k + 1) := by
  by_cases h : k + 1 < l.length
  ·rw [wAt_in _ _ (by rw [mix_len]; exact h), wAt_in _ _ h, mix_at l k _ h]; simp [show ¬ k + 1 < k by omega]
  ·rw [wAt_out _ _ (by rw [mix_len]; omega), wAt_out _ _ (by omega)]
 unfold aloneC
 rw [e0, e1]
 by_cases h2 : wAt l k = 2
 ·simp [h2]
 ·rw [if_neg h2, if_neg h2]
  by_cases h0 : wAt l k = 0
  ·rw [if_pos h0, if_pos h0]
   by_cases hz : k = 0
   ·simp [hz]
   ·have hp : k - 1 < l.length := by omega
    have e2 : wAt (mixC l k) (k - 1) = 2 ↔ wAt l (k - 1) = 2 := by
     rw [wAt_in _ _ (by rw [mix_len]; exact hp), mix_at l k _ hp, if_pos (by omega), mendAt_w l _ hp]
     constructor
     ·exact fun h => h.1
     ·intro h
      refine ⟨h, ?_⟩
      unfold aloneC
      rw [if_pos h, show k - 1 + 1 = k by omega, h0]
      simp
    simp [hz, e2]
  ·rw [if_neg h0, if_neg h0]
theorem mend_cAt (l : List Cel) (i : Nat) (hi : i < l.length) : cAt (mendC l) i = mendAt l i := tab_cAt _ _ _ hi
theorem okAt_iff (l : List Cel) (i : Nat) : okAt l i = true ↔ rightC (cAt l i) = true ∧ aloneC l i = false ∧ (wAt l i = 0 → (cAt l i).p = (cAt l (i - 1)).p) := by
 unfold okAt
 simp only [Bool.and_eq_true, Bool.or_eq_true, Bool.not_eq_true', decide_eq_true_iff, decide_eq_false_iff_not]
 constructor
 ·rintro ⟨h1, h2, h3⟩; exact ⟨h1, h2, fun h => by rcases h3 with q | q; exact absurd h q; exact q⟩
 ·rintro ⟨h1, h2, h3⟩; exact ⟨h1, h2, by by_cases h : wAt l i = 0; exact .inr (h3 h); exact .inl h⟩
theorem okP_iff (l : List Cel) (i : Nat) : okP l i = true ↔ rightC (cAt l i) = true ∧ aloneC l i = false ∧ (wAt l i = 2 → cAt l (i + 1) = restC (cAt l i)) := by
 unfold okP
 simp only [Bool.and_eq_true, Bool.or_eq_true, Bool.not_eq_true', decide_eq_true_iff, decide_eq_false_iff_not]
 constructor
 ·rintro ⟨h1, h2, h3⟩; exact ⟨h1, h2, fun h => by rcases h3 with q | q; exact absurd h q; exact q⟩
 ·rintro ⟨h1, h2, h3⟩; exact ⟨h1, h2, by by_cases h : wAt l i = 2; exact .inr (h3 h); exact .inl h⟩
theorem alone_2 {l : List Cel} {i : Nat} (h : wAt l i = 2) (ha : aloneC l i = false) : wAt l (i + 1) = 0 := by
 unfold aloneC at ha; rw [if_pos h] at ha; simpa using ha
theorem alone_0 {l : List Cel} {i : Nat} (h : wAt l i = 0) (ha : aloneC l i = false) : i ≠ 0 ∧ wAt l (i - 1) = 2 := by
 unfold aloneC at ha; rw [if_neg (by omega), if_pos h] at ha; simpa using ha
theorem wAt_lt {l : List Cel} {i : Nat} (h : wAt l i ≠ 9) : i < l.length := by
 by_cases q : i < l.length
 ·exact q
 ·exact absurd (wAt_out l i (by omega)) h
theorem right_w0 {c : Cel} (h : rightC c = true) (h0 : c.w = 0) : c.r = 0 ∧ c.m = 0 ∧ c.n = 0 := by
 unfold rightC at h; simp only [Bool.and_eq_true, if_pos h0, decide_eq_true_iff] at h; exact h.2
theorem right_w {c : Cel} (h : rightC c = true) : c.w = 0 ∨ c.w = 1 ∨ c.w = 2 := by
 unfold rightC at h
 simp only [Bool.and_eq_true] at h
 by_cases h0 : c.w = 0
 ·exact .inl h0
 ·rw [if_neg h0] at h
  by_cases hb : bearsC c = true
  ·unfold bearsC at hb; simp at hb; omega
  ·rw [if_neg hb] at h; cases h.2
theorem rightL_P (l : List Cel) : rightL l = decide (∀ i, i < l.length → okP l i = true) := by
 unfold rightL
 rw [Bool.eq_iff_iff, decide_eq_true_iff, decide_eq_true_iff]
 constructor
 ·intro H i hi
  obtain ⟨h1, h2, h3⟩ := (okAt_iff l i).1 (H i hi)
  refine (okP_iff l i).2 ⟨h1, h2, fun h => ?_⟩
  have h4 := alone_2 h h2
  have hi1 : i + 1 < l.length := wAt_lt (by omega)
  obtain ⟨k1, k2, k3⟩ := (okAt_iff l (i + 1)).1 (H _ hi1)
  have k4 := k3 h4
  rw [wAt_in l _ hi1] at h4
  obtain ⟨r1, r2, r3⟩ := right_w0 k1 h4
  rw [show i + 1 - 1 = i by omega] at k4
  generalize cAt l (i + 1) = c at *
  obtain ⟨r, m, n, w, p⟩ := c
  simp only at r1 r2 r3 h4 k4
  subst r1 r2 r3 h4 k4
  rfl
 ·intro H i hi
  obtain ⟨h1, h2, h3⟩ := (okP_iff l i).1 (H i hi)
  refine (okAt_iff l i).2 ⟨h1, h2, fun h => ?_⟩
  obtain ⟨h4, h5⟩ := alone_0 h h2
  have hi1 : i - 1 < l.length := by omega
  obtain ⟨k1, k2, k3⟩ := (okP_iff l (i - 1)).1 (H _ hi1)
  have k4 := k3 h5
  rw [show i - 1 + 1 = i by omega] at k4
  rw [k4]; rfl
theorem rightL_iff (l : List Cel) : rightL l = true ↔ ∀ i, i < l.length → okAt l i = true := by unfold rightL; rw [decide_eq_true_iff]
theorem rightL_noP (l : List Cel) (i : Nat) (hi : i < l.length) (h : okP l i = false) : rightL l = false := by
 cases q : rightL l
 ·rfl
 ·rw [rightL_P, decide_eq_true_iff] at q; rw [q i hi] at h; cases h
theorem rightL_yesP (l : List Cel) (h : ∀ i, i < l.length → okP l i = true) : rightL l = true := by rw [rightL_P, decide_eq_true_iff]; exact h
section
open Go.ChangeShapes Go.WideShapes Go.ChangeAt Go.RowKit
theorem hide {p : Prop} (h : p) : Hid p := h
theorem ret_int {k : IntKind} {a b : Int} (h : a = b) : Ending.returned (.int k a) = .returned (.int k b) := by rw [h]
def Ints (k : IntKind) (w : World) (a : Option Addr) (zs : List Int) : Prop :=
 zs = [] ∨ ∃ b off, a = some ⟨b, off, none⟩ ∧ ∀ i, i < zs.length → w.cell? ⟨b, off + i, none⟩ = some (.int k (zs.getD i 0))
section
variable {k : IntKind} {w w' : World} {a : Option Addr} {zs : List Int}
theorem Ints.nil : Ints k w a [] := .inl rfl
theorem Ints.at (h : Ints k w a zs) {i : Nat} (hi : i < zs.length) :
  ∃ b off, a = some ⟨b, off, none⟩ ∧ w.cell? ⟨b, off + i, none⟩ = some (.int k (zs.getD i 0)) ∧ b < w.heap.size := by
 rcases h with h | ⟨b, off, ha, hc⟩
 ·subst h; simp at hi
 ·exact ⟨b, off, ha, hc i hi, block_lt_of_cell (hc i hi)⟩
theorem Ints.keep (h : Ints k w a zs) (hk : ∀ p : Addr, p.block < w.heap.size → w'.cell? p = w.cell? p) : Ints k w' a zs := by
 rcases h with h | ⟨b, off, ha, hc⟩
 ·exact .inl h
 ·exact .inr ⟨b, off, ha, fun i hi => (hk _ (block_lt_of_cell (hc i hi))).trans (hc i hi)⟩
theorem Ints.below (h : Ints k w a zs) (hb : Below w.heap.size w w') : Ints k w' a zs := h.keep fun _ hp => hb.cell hp
theorem Ints.alloc (h : Ints k w a zs) (o : Obj) : Ints k (w.alloc o) a zs := h.keep fun p hp => World.cell?_alloc_lt w o p hp
theorem Ints.drewN (h : Ints k w a zs) (n : Nat) : Ints k (w.drewN n) a zs := h
theorem Ints.drew (h : Ints k w a zs) : Ints k w.drew a zs := h
theorem Ints.take (h : Ints k w a zs) (n : Nat) : Ints k w a (zs.take n) := by
 rcases h with h | ⟨b, off, ha, hc⟩
 ·exact .inl (by simp [h])
 ·refine .inr ⟨b, off, ha, fun i hi => ?_⟩
  rw [List.length_take] at hi
  rw [hc i (by omega)]
  simp [show i < n by omega]
theorem Ints.drop (h : Ints k w a zs) (n : Nat) : Ints k w (a.map (·.add n)) (zs.drop n) := by
 rcases h with h | ⟨b, off, ha, hc⟩
 ·exact .inl (by simp [h])
 ·refine .inr ⟨b, off + n, ?_, fun i hi => ?_⟩
  ·subst ha; simp only [Option.map_some, Addr.add]; split <;> simp_all
  ·rw [List.length_drop] at hi
   rw [show off + n + i = off + (n + i) by omega, hc (n + i) (by omega)]
   simp [List.getElem?_drop]
theorem Ints.cut (h : Ints k w a zs) (n cap : Nat) (hc : zs.length ≤ cap) : Ints k w (if cap = n then a else a.map (·.add n)) (zs.drop n) := by
 by_cases e : cap = n
 ·rw [if_pos e]; exact .inl (List.drop_eq_nil_of_le (by omega))
 ·rw [if_neg e]; exact h.drop n
end
theorem Ints.new (k : IntKind) (w : World) (t : TypeId) (zs : List Int) : Ints k (w.alloc (.cells (zs.map (Value.int k)).toArray t)) (some ⟨w.heap.size, 0, none⟩) zs := by
 refine .inr ⟨_, _, rfl, fun i hi => ?_⟩
 rw [Nat.zero_add, World.cell?_alloc_at (w := w) _ t _ i rfl]
 simp [List.getElem?_eq_getElem hi]
structure Elem (P : Program) (S e : TypeId) (k : IntKind) (bytes : Nat) : Prop where
 under : P.underlying S = some (.slice e)
 info : (P.info? e).map (fun i => (i.zero, i.size, i.bytes)) = some (some (.int k 0), 1, bytes)
structure Own (e : TypeId) (k : IntKind) (B : Nat) (w wr : World) (v : Value) (bs : List Int) : Prop where
 own : wr.ownsRow B e 1 v bs.length (bs.map (Value.int k))
 bel : Below B w wr
 le : B ≤ wr.heap.size
theorem own_ge {w : World} {B : Nat} {e : TypeId} {s n : Nat} {v : Value} {xs : List Value} (h : w.ownsRow B e s v n xs) : ∀ g, v.ownBlock = some g → B ≤ g := fun g hg => (h.lt g hg).1
section
variable {e : TypeId} {k : IntKind} {B : Nat} {w wr : World} {v : Value} {bs : List Int}
theorem Own.start (hB : B ≤ w.heap.size) : Own e k B w w (.slice none 0 0) [] := ⟨World.ownsRow_nil _ _ _ _, Below.refl _ _, hB⟩
theorem Own.empty (w : World) (e : TypeId) (k : IntKind) : Own e k w.heap.size w (w.alloc (.cells #[] e)) (.slice (some ⟨w.heap.size, 0, none⟩) 0 0) [] :=
 ⟨⟨by simp, .inr ⟨w.heap.size, 0, #[], rfl, Nat.le_refl _, heap_alloc_new w _, Nat.le_refl _, Nat.zero_le _, rfl, rfl⟩⟩, (Below.refl _ _).alloc (Nat.le_refl _) _, by simp⟩
theorem Own.form (h : Own e k B w wr v bs) : ∃ A cap, v = .slice A bs.length cap ∧ Ints k wr A bs ∧ bs.length ≤ cap ∧ (A = none → cap = 0) := by
 rcases h.own.2 with ⟨rfl, h0⟩ | ⟨g, cap, cur, rfl, _, _, hc, _, _, _⟩
 ·have : bs = [] := List.eq_nil_of_length_eq_zero h0
  subst this
  exact ⟨none, 0, rfl, .nil, Nat.le_refl _, fun _ => rfl⟩
 ·refine ⟨_, cap, rfl, .inr ⟨g, 0, rfl, fun i hi => ?_⟩, hc, fun h => by cases h⟩
  rw [Nat.zero_add, h.own.cellAt i (by omega)]
  simp [List.getElem?_eq_getElem hi]
theorem Own.later {w1 : World} (h : Own e k B w wr v bs) (hb : Below wr.heap.size wr w1) : Own e k B w w1 v bs := by
 refine ⟨⟨h.own.1, ?_⟩, h.bel.trans (hb.mono h.le), Nat.le_trans h.le hb.size⟩
 rcases h.own.2 with h0 | ⟨g, cap, cur, hv, hB, hh, h1⟩
 ·exact .inl h0
 ·refine .inr ⟨g, cap, cur, hv, hB, ?_, h1⟩
  rw [hb.block g (Array.getElem?_eq_some_iff.1 hh).1, hh]
theorem Own.alloc (h : Own e k B w wr v bs) (o : Obj) : Own e k B w (wr.alloc o) v bs := ⟨h.own.alloc o, h.bel.alloc h.le o, by have := h.le; simp; omega⟩
theorem Own.grown {w1 : World} {v' : Value} {ns : List Int} (h : Own e k B w wr v bs) (h1 : w1.ownsRow B e 1 v' (bs.length + ns.length) (bs.map (Value.int k) ++ ns.map (Value.int k)))
  (hg : wr.grownBy w1 v.ownBlock) : Own e k B w w1 v' (bs ++ ns) :=
 ⟨by simpa using h1, h.bel.grown hg h.le (own_ge h.own), Nat.le_trans h.le hg.size⟩
end
theorem oneCells (k : IntKind) (ns : List Int) : ∀ u ∈ ns.map (Value.int k), u.oneCell' = true := by
 intro u hu
 obtain ⟨x, _, rfl⟩ := List.mem_map.1 hu
 rfl
theorem wpList_want {P : Program} {ops : Array Oper} {rest : List Oper} {o : Oper} {a : Act} {w : World} {Q : Exit → Act → World → Prop} (hw : Region.wanted o (yielded ops a.tmps) = true)
  (h : ∀ K : Act → World → Prop, (∀ a w, wpList P ops Q rest a w → K a w) → o.wp P a w K Q) : wpList P ops Q (o :: rest) a w :=
 wpList_step fun K hK => by rw [if_pos hw]; exact h K hK
theorem wpList_val {P : Program} {ops : Array Oper} {rest : List Oper} {o : Oper} {a : Act} {w : World} {Q : Exit → Act → World → Prop} {v : Value} (hw : Region.wanted o (yielded ops a.tmps) = true)
  (hrun : (execOp a.eval o).run P w = .ok (.value v) w) (h : wpList P ops Q rest (a.put o.dst v) w) : wpList P ops Q (o :: rest) a w :=
 wpList_want hw fun K hK => by
  unfold Oper.wp
  rw [hrun]
  exact hK _ _ h
theorem wpList_push {P : Program} {S e : TypeId} {k : IntKind} {bytes : Nat} (E : Elem P S e k bytes) {ops : Array Oper} {rest : List Oper} {o : Oper} {a : Act} {Q : Exit → Act → World → Prop} {B : Nat} {w wr : World} {v : Value} {bs : List Int} {x : Int}
  (hgd : Region.wanted o (yielded ops a.tmps) = true) (s y : Operand) (ho : o.op = .call { callee := .builtin .append, args := #[s, y], argTypes := #[S, S] })
  (hs : a.eval s = v) (hy : a.eval y = .slice (some ⟨wr.heap.size, 0, none⟩) 1 1) (hown : Own e k B w wr v bs) (hlen : bs.length ≤ 1000000) (hby : bytes ≤ 1000)
  (h : ∀ v' w1, Own e k B w w1 v' (bs ++ [x]) → wpList P ops Q rest (a.put o.dst v') w1) : wpList P ops Q (o :: rest) a (wr.alloc (.cells #[.int k x] e)) := by
 obtain ⟨i0, hi, hz0, hz1, hz2⟩ := info_parts E.info
 have hb : (bs.length + 1) * bytes ≤ 1000001 * 1000 := Nat.mul_le_mul (by omega) hby
 refine wpList_want hgd fun K hK => ?_
 refine wp_append_own _ s y S ho B e i0 (.int k 0) 1 bytes E.under hi hz0 hz1 hz2 rfl (by decide) v bs.length _ hs (hown.own.alloc _) ⟨wr.heap.size, 0, none⟩ 1 1 [.int k x] hy rfl (cell_one_new _ _ _) (oneCells k [x])
  (by unfold maxLen; omega) (by omega) (by have := hown.le; simp; omega) ?_
 intro v' w1 h1 hg _
 exact hK _ _ (h v' w1 ((hown.alloc _).grown (ns := [x]) h1 hg))
theorem wpList_cat {P : Program} {S e : TypeId} {k : IntKind} {bytes : Nat} (E : Elem P S e k bytes) {ops : Array Oper} {rest : List Oper} {o : Oper} {a : Act} {Q : Exit → Act → World → Prop} {B : Nat} {w wr : World} {v : Value} {bs ns : List Int} {A : Option Addr} {n c : Nat}
  (hgd : Region.wanted o (yielded ops a.tmps) = true) (s y : Operand) (ho : o.op = .call { callee := .builtin .append, args := #[s, y], argTypes := #[S, S] })
  (hs : a.eval s = v) (hy : a.eval y = .slice A n c) (hown : Own e k B w wr v bs) (hns : Ints k wr A ns) (hn : ns.length = n) (hc : A = none → c = 0) (hlen : bs.length + n ≤ 1000000) (hby : bytes ≤ 1000)
  (h : ∀ v' w1, Own e k B w w1 v' (bs ++ ns) → wpList P ops Q rest (a.put o.dst v') w1) : wpList P ops Q (o :: rest) a wr := by
 subst hn
 obtain ⟨i0, hi, hz0, hz1, hz2⟩ := info_parts E.info
 have hb : (bs.length + ns.length) * bytes ≤ 1000000 * 1000 := Nat.mul_le_mul hlen hby
 refine wpList_want hgd fun K hK => ?_
 cases A with
 | none =>
  have hn : ns = [] := by
   rcases hns with h | ⟨_, _, h, _⟩
   ·exact h
   ·cases h
  subst hn
  obtain rfl : c = 0 := hc rfl
  have hrun := run_append_owned_none (P := P) (w := wr) B S o.type e i0 1 E.under hi v bs.length _ hown.own
  unfold Oper.wp
  simp [execOp, ho, resolve, invoke, builtin, hs, hy, hrun, Result.andThen]
  exact hK _ _ (h v wr (by simpa using hown))
 | some ad =>
  refine wp_append_own _ s y S ho B e i0 (.int k 0) 1 bytes E.under hi hz0 hz1 hz2 rfl (by decide) v bs.length _ hs hown.own ad ns.length c (ns.map (Value.int k)) hy (by simp) ?_ (oneCells k ns)
   (by unfold maxLen; omega) (by omega) hown.le ?_
  ·intro j u hu
   have hj : j < ns.length := by have := (List.getElem?_eq_some_iff.1 hu).1; simpa using this
   obtain ⟨b, off, e1, hcell, _⟩ := hns.at hj
   cases e1
   have : (⟨b, off, none⟩ : Addr).add j = ⟨b, off + j, none⟩ := by unfold Addr.add; split <;> simp_all
   rw [this, hcell]
   simp [List.getElem?_eq_getElem hj] at hu ⊢
   exact hu
  ·intro v' w1 h1 hg _
   exact hK _ _ (h v' w1 (hown.grown h1 hg))
def strOf (bs : List Int) : ByteArray := ⟨(bs.map fun b => UInt8.ofNat b.toNat).toArray⟩
theorem run_strOf {P : Program} (w : World) (S T e : TypeId) (hs : P.underlying S = some (.slice e)) (he : P.underlying e = some (.int .u8)) (hd : P.underlying T = some .string) (A : Option Addr) (c : Nat) (bs : List Int)
  (h : Ints .u8 w A bs) (hb : ∀ x ∈ bs, 0 ≤ x ∧ x ≤ 255) : (convert S T (.slice A bs.length c)).run P w = .ok (.string (strOf bs)) w := by
 cases A with
 | none =>
  have hn : bs = [] := by
   rcases h with h | ⟨_, _, h, _⟩
   ·exact h
   ·cases h
  subst hn
  rw [run_convert_bytes_string w S T e none _ c hs he hd]
  rfl
 | some ad =>
  have hl : bs.length = (bs.map fun b => UInt8.ofNat b.toNat).length := by simp
  rw [hl]
  refine run_convert_bytes_back w S T e ad c _ hs he hd ?_
  intro j hj
  have hj' : j < bs.length := by simpa using hj
  obtain ⟨b, off, e1, hcell, _⟩ := h.at hj'
  cases e1
  have : (⟨b, off, none⟩ : Addr).add j = ⟨b, off + j, none⟩ := by unfold Addr.add; split <;> simp_all
  rw [this, hcell]
  have hm : bs[j] ∈ bs := List.getElem_mem hj'
  have := hb _ hm
  simp [List.getElem?_eq_getElem hj']
  omega
theorem exq {α : Sort _} (a : α) : ∃ b, a = b := ⟨a, rfl⟩
def Whole (w : World) (g : Nat) (t : TypeId) (l : List Value) : Prop := w.heap[g]? = some (.cells l.toArray t (0, 0))
section
variable {w w' : World} {g : Nat} {t : TypeId} {l : List Value}
theorem Whole.cell (h : Whole w g t l) (i : Nat) : w.cell? ⟨g, i, none⟩ = l[i]? := by
 rw [cell_of_row w g i l.toArray t (0, 0) h]; simp
theorem Whole.frozen (h : Whole w g t l) (i : Nat) : w.frozen? ⟨g, i, none⟩ = false := by
 unfold Whole at h; simp [World.frozen?, h]
theorem Whole.lt (h : Whole w g t l) : g < w.heap.size := (Array.getElem?_eq_some_iff.1 h).1
theorem Whole.new (w : World) (t : TypeId) (l : List Value) : Whole (w.alloc (.cells l.toArray t)) w.heap.size t l := heap_alloc_new w _
theorem Whole.alloc (h : Whole w g t l) (o : Obj) : Whole (w.alloc o) g t l := (Below.heap_alloc w o g h.lt).trans h
theorem Whole.drewN (h : Whole w g t l) (n : Nat) : Whole (w.drewN n) g t l := h
theorem Whole.drew (h : Whole w g t l) : Whole w.drew g t l := h
theorem Whole.put (h : Whole w g t l) (i : Nat) (u : Value) : Whole (w.setCell ⟨g, i, none⟩ u) g t (l.set i u) := by
 unfold Whole
 rw [heap_setCell_same w g i l.toArray t u h]
 simp
theorem Whole.below {B : Nat} (h : Whole w g t l) (hb : Below B w w') (hg : g < B) : Whole w' g t l := (hb.block g hg).trans h
theorem Whole.later (h : Whole w g t l) (hb : Below w.heap.size w w') : Whole w' g t l := h.below hb h.lt
theorem Whole.far {g' : Nat} (h : Whole w g t l) (hg : w.grownBy w' (some g')) (hne : g ≠ g') : Whole w' g t l := (hg.block g h.lt (by simpa using hne)).trans h
end
def Only (g : Nat) (w w' : World) : Prop := w.grownBy w' (some g)
section
variable {g : Nat} {w w' w'' : World}
theorem Only.refl : Only g w w := ⟨rfl, rfl, rfl, Nat.le_refl _, fun _ _ _ => rfl⟩
theorem Only.trans (h : Only g w w') (k : Only g w' w'') : Only g w w'' :=
 ⟨k.os.trans h.os, k.tape.trans h.tape, k.output.trans h.output, Nat.le_trans h.size k.size, fun i hi hne => (k.block i (Nat.lt_of_lt_of_le hi h.size) hne).trans (h.block i hi hne)⟩
theorem Only.put (i : Nat) (u : Value) : Only g w (w.setCell ⟨g, i, none⟩ u) :=
 ⟨rfl, rfl, rfl, by simp [World.setCell], fun k _ hne => Below.heap_setCell _ _ _ _ (by intro e; exact hne (by simp [e]))⟩
theorem Only.of_below (h : Below w.heap.size w w') : Only g w w' := ⟨h.os, h.tape, h.output, h.size, fun i hi _ => h.block i hi⟩
theorem Only.below {B : Nat} {a : World} (h : Only g w w') (hb : Below B a w) (hB : B ≤ w.heap.size) (hg : B ≤ g) : Below B a w' := hb.grown h hB (by intro k hk; simp at hk; omega)
theorem Only.ints {k : IntKind} {A : Option Addr} {zs : List Int} {t : TypeId} {l : List Value} (h : Only g w w') (hi : Ints k w A zs) (hw : Whole w g t l) (hl : ∀ x, .int k x ∉ l) : Ints k w' A zs := by
 rcases hi with hi | ⟨b, off, ha, hc⟩
 ·exact .inl hi
 ·refine .inr ⟨b, off, ha, fun i hi => ?_⟩
  have hne : b ≠ g := by
   rintro rfl
   have h1 := hc i hi
   rw [hw.cell] at h1
   exact hl _ (List.mem_of_getElem? h1)
  rw [World.grownBy.cell_far h _ (block_lt_of_cell (hc i hi)) (by simpa using hne), hc i hi]
theorem Only.size (h : Only g w w') : w.heap.size ≤ w'.heap.size := World.grownBy.size h
end
theorem ret_bool {a b : Bool} (h : a = b) : Ending.returned (.bool a) = .returned (.bool b) := by rw [h]
theorem _root_.Go.RowKit.Below.drewN {B : Nat} {w w' : World} (h : Below B w w') (n : Nat) : Below B w (w'.drewN n) := ⟨h.os, h.tape, h.output, h.size, h.block⟩
theorem bd1 {B : Nat} {w : World} : Below B w (w.drewN 1) := (Below.refl _ _).drewN 1
def Byte (bs : List Int) : Prop := ∀ x ∈ bs, 0 ≤ x ∧ x ≤ 255
theorem Byte.drop {b : List Int} (h : Byte b) (n : Nat) : Byte (b.drop n) := fun x hx => h x (List.mem_of_mem_drop hx)
theorem Byte.take {b : List Int} (h : Byte b) (n : Nat) : Byte (b.take n) := fun x hx => h x (List.mem_of_mem_take hx)
theorem Byte.append {a b : List Int} (h : Byte a) (k : Byte b) : Byte (a ++ b) := fun x hx => by rcases List.mem_append.1 hx with q | q; exact h x q; exact k x q
def Rn (zs : List Int) : Prop := ∀ x ∈ zs, -2147483648 ≤ x ∧ x ≤ 2147483647
theorem getD_mem (zs : List Int) (k : Nat) (hk : k < zs.length) : zs.getD k 0 ∈ zs := by
 rw [List.getD_eq_getElem?_getD, List.getElem?_eq_getElem hk]
 exact List.getElem_mem hk
theorem Rn.at {zs : List Int} (h : Rn zs) (k : Nat) (hk : k < zs.length) : -2147483648 ≤ zs.getD k 0 ∧ zs.getD k 0 ≤ 2147483647 := h _ (getD_mem zs k hk)
theorem getD_byte (zs : List Int) (h : Byte zs) (k : Nat) (hk : k < zs.length) : ∃ n : Nat, zs.getD k 0 = (n : Int) ∧ n ≤ 255 := by
 have := h _ (getD_mem zs k hk)
 exact ⟨(zs.getD k 0).toNat, by omega, by omega⟩
theorem drop_at (zs : List Int) (k : Nat) (n : Int) (hk : k < zs.length) (h : zs.getD k 0 = n) : zs.drop k = n :: zs.drop (k + 1) := by
 rw [List.drop_eq_getElem_cons hk]
 rw [List.getD_eq_getElem?_getD, List.getElem?_eq_getElem hk] at h
 simp at h
 rw [h]
theorem take_snoc (zs : List Int) (k : Nat) (r : Int) (hk : k < zs.length) (hr : zs.getD k 0 = r) : zs.take (k + 1) = zs.take k ++ [r] := by
 rw [List.take_succ_eq_append_getElem hk]
 rw [List.getD_eq_getElem?_getD, List.getElem?_eq_getElem hk] at hr
 simp at hr
 rw [hr]
theorem take_next (p x : List Int) (k : Nat) (u : Int) (hp : k < p.length) (hx : k < x.length) (h : p.take k = x.take k) (h1 : p.getD k 0 = u) (h2 : x.getD k 0 = u) : p.take (k + 1) = x.take (k + 1) := by
 rw [take_snoc p k u hp h1, take_snoc x k u hx h2, h]
def lenOf : Value → Nat
 | .slice _ n _ => n
 | _ => 0
theorem cut_nil_ {A : Option Addr} {c q : Nat} (h : A = none → c = 0) : (if c = q then A else A.map (·.add q)) = none → c - q = 0 := by
 intro e
 by_cases hc : c = q
 ·omega
 ·rw [if_neg hc] at e
  cases A with
  | none => rw [h rfl]; omega
  | some a => cases e
def Made (t : TypeId) (k : IntKind) (w : World) (bs : List Int) (e : Ending) (w' : World) : Prop := ∃ v, e = .returned v ∧ Own t k w.heap.size w w' v bs
def Said (b : Bool) (w : World) (e : Ending) (w' : World) : Prop := e = .returned (.bool b) ∧ Below w.heap.size w w'
def Num (k : IntKind) (r : Int) (w : World) (e : Ending) (w' : World) : Prop := e = .returned (.int k r) ∧ Below w.heap.size w w'
theorem Own.lit (w : World) (e : TypeId) (k : IntKind) (zs : List Int) (n : Nat) (hn : zs.length = n) (hl : n ≤ 1000000) :
  Own e k w.heap.size w (w.alloc (.cells (zs.map (Value.int k)).toArray e)) (.slice (some ⟨w.heap.size, 0, none⟩) n n) zs := by
 subst hn
 refine ⟨⟨by simp, .inr ⟨w.heap.size, zs.length, (zs.map (Value.int k)).toArray, rfl, Nat.le_refl _, heap_alloc_new w _, Nat.le_refl _, by unfold maxLen; omega, by simp, ?_⟩⟩, (Below.refl _ _).alloc (Nat.le_refl _) _, by simp⟩
 simp [List.take_of_length_le]
theorem Own.form2 {e : TypeId} {k : IntKind} {B : Nat} {w wr : World} {v : Value} {bs : List Int} (h : Own e k B w wr v bs) :
  ∃ A cap, v = .slice A bs.length cap ∧ Ints k wr A bs ∧ bs.length ≤ cap ∧ (A = none → cap = 0) ∧ cap ≤ maxLen := by
 rcases h.own.2 with ⟨rfl, h0⟩ | ⟨g, cap, cur, rfl, _, _, hc, hm, _, _⟩
 ·have : bs = [] := List.eq_nil_of_length_eq_zero h0
  subst this
  exact ⟨none, 0, rfl, .nil, Nat.le_refl _, fun _ => rfl, Nat.zero_le _⟩
 ·refine ⟨_, cap, rfl, .inr ⟨g, 0, rfl, fun i hi => ?_⟩, hc, (fun h => by cases h), hm⟩
  rw [Nat.zero_add, h.own.cellAt i (by omega)]
  simp [List.getElem?_eq_getElem hi]
theorem Ints.newF (k : IntKind) (w : World) (t : TypeId) (fz : Nat × Nat) (zs : List Int) : Ints k (w.alloc (.cells (zs.map (Value.int k)).toArray t fz)) (some ⟨w.heap.size, 0, none⟩) zs := by
 refine .inr ⟨_, _, rfl, fun i hi => ?_⟩
 rw [Nat.zero_add, cell_of_row _ w.heap.size i _ t fz (heap_alloc_new w _)]
 simp [List.getElem?_eq_getElem hi]
theorem Own.now {e : TypeId} {k : IntKind} {B : Nat} {w wr : World} {v : Value} {bs : List Int} (h : Own e k B w wr v bs) : Own e k B wr wr v bs := ⟨h.own, Below.refl _ _, h.le⟩
theorem Own.keep {e : TypeId} {k : IntKind} {B : Nat} {w wr w1 : World} {v : Value} {bs : List Int} (h : Own e k B w wr v bs) (hb : ∀ g, B ≤ g → g < wr.heap.size → w1.heap[g]? = wr.heap[g]?) (hs : wr.heap.size ≤ w1.heap.size) : Own e k B w1 w1 v bs := by
 refine ⟨⟨h.own.1, ?_⟩, Below.refl _ _, Nat.le_trans h.le hs⟩
 rcases h.own.2 with h0 | ⟨g, cap, cur, hv, hB, hh, h1⟩
 ·exact .inl h0
 ·exact .inr ⟨g, cap, cur, hv, hB, (hb g hB (Array.getElem?_eq_some_iff.1 hh).1).trans hh, h1⟩
structure Fr (B g : Nat) (w w' : World) : Prop where
 os : w'.os = w.os
 tape : w'.tape = w.tape
 output : w'.output = w.output
 size : w.heap.size ≤ w'.heap.size
 block : ∀ i, i < B → i ≠ g → w'.heap[i]? = w.heap[i]?
section
variable {B g : Nat} {w w' w'' : World}
theorem Fr.refl : Fr B g w w := ⟨rfl, rfl, rfl, Nat.le_refl _, fun _ _ _ => rfl⟩
theorem Fr.trans (h : Fr B g w w') (k : Fr B g w' w'') : Fr B g w w'' :=
 ⟨k.os.trans h.os, k.tape.trans h.tape, k.output.trans h.output, Nat.le_trans h.size k.size, fun i hi hne => (k.block i hi hne).trans (h.block i hi hne)⟩
theorem Fr.of_below (h : Below B w w') : Fr B g w w' := ⟨h.os, h.tape, h.output, h.size, fun i hi _ => h.block i hi⟩
theorem Fr.put (i : Nat) (u : Value) : Fr B g w (w.setCell ⟨g, i, none⟩ u) :=
 ⟨rfl, rfl, rfl, by simp [World.setCell], fun k _ hne => Below.heap_setCell _ _ _ _ (by intro e; exact hne (by simp [e]))⟩
theorem Fr.drewN (h : Fr B g w w') (n : Nat) : Fr B g w (w'.drewN n) := ⟨h.os, h.tape, h.output, h.size, h.block⟩
theorem Fr.less {C : Nat} (h : Fr B g w w') (hC : C ≤ B) : Fr C g w w' := ⟨h.os, h.tape, h.output, h.size, fun i hi hne => h.block i (by omega) hne⟩
theorem Fr.below {C : Nat} (h : Fr B g w w') (hC : C ≤ B) (hg : C ≤ g) : Below C w w' := ⟨h.os, h.tape, h.output, h.size, fun i hi => h.block i (by omega) (by omega)⟩
end
theorem strOf_back (x : List Int) (h : Byte x) : (x.map fun b => UInt8.ofNat b.toNat).map (fun u => (u.toNat : Int)) = x := by
 induction x with
 | nil => rfl
 | cons a x ih =>
  have ha := h a (by simp)
  have := ih (fun y hy => h y (by simp [hy]))
  simp only [List.map_cons, this]
  congr 1
  simp; omega
theorem strOf_beq (x y : List Int) (hx : Byte x) (hy : Byte y) : ((strOf x).toList == (strOf y).toList) = decide (x = y) := by
 unfold strOf
 rw [ByteArray.toList_mk, ByteArray.toList_mk, Bool.eq_iff_iff, beq_iff_eq, decide_eq_true_iff]
 constructor
 ·intro h
  rw [← strOf_back x hx, h, strOf_back y hy]
 ·rintro rfl; rfl
def IsRow (k : IntKind) (w : World) (a : Option Addr) (len cap : Nat) (zs : List Int) : Prop :=
 (a = none ∧ len = 0 ∧ cap = 0 ∧ zs = []) ∨
 ∃ x, a = some x ∧ len ≤ cap ∧ cap ≤ maxLen ∧ zs.length = cap ∧ (∀ i, i < zs.length → w.cell? (x.add i) = some (.int k (zs.getD i 0))) ∧ ∀ n ∈ zs, (Lit.int k n).wf = true
theorem IsRow.ints {k : IntKind} {w : World} {a : Option Addr} {len cap : Nat} {zs : List Int} (h : IsRow k w a len cap zs) : Ints k w a zs := by
 rcases h with ⟨rfl, rfl, rfl, rfl⟩ | ⟨x, rfl, hl, hm, hz, hc, hw⟩
 ·exact .nil
 ·by_cases h0 : zs = []
  ·exact .inl h0
  ·have hp : 0 < zs.length := List.length_pos_iff.2 h0
   obtain ⟨b, off, spot⟩ := x
   have hs : spot = none := by simpa [Addr.add] using World.cell?_spot (hc 0 hp)
   subst hs
   refine .inr ⟨b, off, rfl, fun i hi => ?_⟩
   have := hc i hi
   have e : (⟨b, off, none⟩ : Addr).add i = ⟨b, off + i, none⟩ := by unfold Addr.add; split <;> simp_all
   rwa [e] at this
theorem IsRow.len {k : IntKind} {w : World} {a : Option Addr} {len cap : Nat} {zs : List Int} (h : IsRow k w a len cap zs) : zs.length = cap ∧ len ≤ cap ∧ (a = none → cap = 0) ∧ cap ≤ maxLen := by
 rcases h with ⟨rfl, rfl, rfl, rfl⟩ | ⟨x, rfl, hl, hm, hz, hc, hw⟩
 ·exact ⟨rfl, Nat.le_refl _, fun _ => rfl, Nat.zero_le _⟩
 ·exact ⟨hz, hl, (fun h => by cases h), hm⟩
theorem IsRow.wf {k : IntKind} {w : World} {a : Option Addr} {len cap : Nat} {zs : List Int} (h : IsRow k w a len cap zs) : ∀ n ∈ zs, (Lit.int k n).wf = true := by
 rcases h with ⟨rfl, rfl, rfl, rfl⟩ | ⟨x, rfl, hl, hm, hz, hc, hw⟩
 ·simp
 ·exact hw
def eqP (f g b f' g' b' : Int) : Bool := (f == f') && ((g == g') && (b == b'))
def eqM (m n m' n' : Int) : Bool := (m == m') && (n == n')
def eqC (r m n w f g b r' m' n' w' f' g' b' : Int) : Bool := (r == r') && (eqM m n m' n' && ((w == w') && eqP f g b f' g' b'))
def fieldsAre (P : Program) (t : TypeId) (l : List (Bool × TypeId × Nat)) : Prop := (P.fieldsOf t).toList.map (fun f => (f.name == "_", f.type, f.offset)) = l
theorem fieldsPen : fieldsAre Tryz.prog 65 [(false, 5, 0), (false, 5, 1), (false, 5, 2)] := by unfold fieldsAre; kernel_rfl
theorem fieldsP : fieldsAre Tryz.prog 38 [(false, 5, 0), (false, 5, 1), (false, 5, 2)] := by unfold fieldsAre; kernel_rfl
theorem fieldsCell : fieldsAre Tryz.prog 73 [(false, 21, 0), (false, 71, 1), (false, 5, 3), (false, 65, 4)] := by unfold fieldsAre; kernel_rfl
theorem fieldsC : fieldsAre Tryz.prog 166 [(false, 3, 0), (false, 164, 1), (false, 5, 3), (false, 38, 4)] := by unfold fieldsAre; kernel_rfl
theorem part5 (xs : Array Value) (i : Nat) (x : Int) (h : xs[i]? = some (.int .u8 x)) (w : World) : (part 5 xs i).run Tryz.prog w = .ok (.int .u8 x) w := by
 unfold part
 simp [go_sem, h]
theorem part21 (xs : Array Value) (i : Nat) (x : Int) (h : xs[i]? = some (.int .i32 x)) (w : World) : (part 21 xs i).run Tryz.prog w = .ok (.int .i32 x) w := by
 unfold part
 simp [go_sem, h]
theorem part3 (xs : Array Value) (i : Nat) (x : Int) (h : xs[i]? = some (.int .i64 x)) (w : World) : (part 3 xs i).run Tryz.prog w = .ok (.int .i64 x) w := by
 unfold part
 simp [go_sem, h]
theorem equalP (t : TypeId) (ht : Tryz.prog.underlying t = some (.struct (Tryz.prog.fieldsOf t))) (hp : Tryz.prog.stoodInHeld t = false) (h3 : fieldsAre Tryz.prog t [(false, 5, 0), (false, 5, 1), (false, 5, 2)]) (d : Nat) (w : World) (f g b f' g' b' : Int) :
  (Op.equalIn (d + 2) t (.agg #[.int .u8 f, .int .u8 g, .int .u8 b]) (.agg #[.int .u8 f', .int .u8 g', .int .u8 b'])).run Tryz.prog w = .ok (eqP f g b f' g' b') w := by
 rw [run_equalIn_agg w (d + 1) t _ _ ht hp]
 unfold fieldsAre at h3
 generalize (Tryz.prog.fieldsOf t).toList = fs at h3
 have hl : fs.length = 3 := by have := congrArg List.length h3; simpa using this
 match fs, hl with
 | [f0, f1, f2], _ =>
  simp only [List.map_cons, List.map_nil, List.cons.injEq, Prod.mk.injEq, beq_eq_false_iff_ne, ne_eq, and_true] at h3
  obtain ⟨⟨n0, t0, o0⟩, ⟨n1, t1, o1⟩, n2, t2, o2⟩ := h3
  simp only [Op.eqFields, n0, n1, n2, t0, t1, t2, o0, o1, o2, ne_eq, not_false_eq_true, if_true, Sem.run_bind, part5 #[Value.int .u8 f, .int .u8 g, .int .u8 b] 0 f rfl, part5 #[Value.int .u8 f, .int .u8 g, .int .u8 b] 1 g rfl, part5 #[Value.int .u8 f, .int .u8 g, .int .u8 b] 2 b rfl,
   part5 #[Value.int .u8 f', .int .u8 g', .int .u8 b'] 0 f' rfl, part5 #[Value.int .u8 f', .int .u8 g', .int .u8 b'] 1 g' rfl, part5 #[Value.int .u8 f', .int .u8 g', .int .u8 b'] 2 b' rfl, Result.andThen_ok, run_equalIn_int w d 5 .u8 .u8 _ _ Tryz.underlying5, Sem.run_ite, Sem.run_pure]
  unfold eqP
  cases hf : f == f' <;> cases hg : g == g' <;> cases hb : b == b' <;> simp
theorem cellsI32 : Tryz.prog.cellsOf 21 = 1 := by kernel_rfl
theorem cellsI64 : Tryz.prog.cellsOf 3 = 1 := by kernel_rfl
theorem infoI32 : ∃ i, Tryz.prog.info? 21 = some i := Option.isSome_iff_exists.1 (by kernel_rfl)
theorem infoI64 : ∃ i, Tryz.prog.info? 3 = some i := Option.isSome_iff_exists.1 (by kernel_rfl)
theorem equalM (d : Nat) (w : World) (m n m' n' : Int) : (Op.equalIn (d + 2) 71 (.agg #[.int .i32 m, .int .i32 n]) (.agg #[.int .i32 m', .int .i32 n'])).run Tryz.prog w = .ok (eqM m n m' n') w := by
 obtain ⟨i, hi⟩ := infoI32
 rw [run_equalIn_array w (d + 1) _ _ Tryz.underlying71 hi, cellsI32]
 have hr : List.range 2 = [0, 1] := rfl
 rw [hr]
 simp only [Op.eqItems, Sem.run_bind, Nat.zero_mul, Nat.one_mul, part21 #[Value.int .i32 m, .int .i32 n] 0 m rfl, part21 #[Value.int .i32 m, .int .i32 n] 1 n rfl, part21 #[Value.int .i32 m', .int .i32 n'] 0 m' rfl, part21 #[Value.int .i32 m', .int .i32 n'] 1 n' rfl, Result.andThen_ok, run_equalIn_int w d 21 .i32 .i32 _ _ Tryz.underlying21, Sem.run_ite, Sem.run_pure]
 unfold eqM
 cases hf : m == m' <;> cases hg : n == n' <;> simp
theorem equalMI (d : Nat) (w : World) (m n m' n' : Int) : (Op.equalIn (d + 2) 164 (.agg #[.int .i64 m, .int .i64 n]) (.agg #[.int .i64 m', .int .i64 n'])).run Tryz.prog w = .ok (eqM m n m' n') w := by
 obtain ⟨i, hi⟩ := infoI64
 rw [run_equalIn_array w (d + 1) _ _ Tryz.underlying164 hi, cellsI64]
 have hr : List.range 2 = [0, 1] := rfl
 rw [hr]
 simp only [Op.eqItems, Sem.run_bind, Nat.zero_mul, Nat.one_mul, part3 #[Value.int .i64 m, .int .i64 n] 0 m rfl, part3 #[Value.int .i64 m, .int .i64 n] 1 n rfl, part3 #[Value.int .i64 m', .int .i64 n'] 0 m' rfl, part3 #[Value.int .i64 m', .int .i64 n'] 1 n' rfl, Result.andThen_ok, run_equalIn_int w d 3 .i64 .i64 _ _ Tryz.underlying3, Sem.run_ite, Sem.run_pure]
 unfold eqM
 cases hf : m == m' <;> cases hg : n == n' <;> simp
theorem partM (r m n w f g b : Value) (W : World) : (part 71 #[r, m, n, w, f, g, b] 1).run Tryz.prog W = .ok (.agg #[m, n]) W := by kernel_rfl
theorem partMI (r m n w f g b : Value) (W : World) : (part 164 #[r, m, n, w, f, g, b] 1).run Tryz.prog W = .ok (.agg #[m, n]) W := by kernel_rfl
theorem partPen (r m n w f g b : Value) (W : World) : (part 65 #[r, m, n, w, f, g, b] 4).run Tryz.prog W = .ok (.agg #[f, g, b]) W := by kernel_rfl
theorem partP (r m n w f g b : Value) (W : World) : (part 38 #[r, m, n, w, f, g, b] 4).run Tryz.prog W = .ok (.agg #[f, g, b]) W := by kernel_rfl
theorem equalCell (d : Nat) (W : World) (r m n w f g b r' m' n' w' f' g' b' : Int) :
  (Op.equalIn (d + 3) 73 (.agg #[.int .i32 r, .int .i32 m, .int .i32 n, .int .u8 w, .int .u8 f, .int .u8 g, .int .u8 b]) (.agg #[.int .i32 r', .int .i32 m', .int .i32 n', .int .u8 w', .int .u8 f', .int .u8 g', .int .u8 b'])).run Tryz.prog W = .ok (eqC r m n w f g b r' m' n' w' f' g' b') W := by
 rw [run_equalIn_agg W (d + 2) 73 _ _ Tryz.underlying73 Tryz.stoodInHeld73]
 have h3 := fieldsCell
 unfold fieldsAre at h3
 generalize (Tryz.prog.fieldsOf 73).toList = fs at h3
 have hl : fs.length = 4 := by have := congrArg List.length h3; simpa using this
 match fs, hl with
 | [f0, f1, f2, f3], _ =>
  simp only [List.map_cons, List.map_nil, List.cons.injEq, Prod.mk.injEq, beq_eq_false_iff_ne, ne_eq, and_true] at h3
  obtain ⟨⟨n0, t0, o0⟩, ⟨n1, t1, o1⟩, ⟨n2, t2, o2⟩, n3, t3, o3⟩ := h3
  simp only [Op.eqFields, n0, n1, n2, n3, t0, t1, t2, t3, o0, o1, o2, o3, ne_eq, not_false_eq_true, if_true, Sem.run_bind, partM, partPen,
   part21 #[Value.int .i32 r, .int .i32 m, .int .i32 n, .int .u8 w, .int .u8 f, .int .u8 g, .int .u8 b] 0 r rfl, part21 #[Value.int .i32 r', .int .i32 m', .int .i32 n', .int .u8 w', .int .u8 f', .int .u8 g', .int .u8 b'] 0 r' rfl,
   part5 #[Value.int .i32 r, .int .i32 m, .int .i32 n, .int .u8 w, .int .u8 f, .int .u8 g, .int .u8 b] 3 w rfl, part5 #[Value.int .i32 r', .int .i32 m', .int .i32 n', .int .u8 w', .int .u8 f', .int .u8 g', .int .u8 b'] 3 w' rfl,
   Result.andThen_ok, run_equalIn_int W (d + 1) 5 .u8 .u8 _ _ Tryz.underlying5, run_equalIn_int W (d + 1) 21 .i32 .i32 _ _ Tryz.underlying21, equalM d, equalP 65 Tryz.underlying65 Tryz.stoodInHeld65 fieldsPen d, Sem.run_ite, Sem.run_pure]
  unfold eqC
  cases r == r' <;> cases eqM m n m' n' <;> cases w == w' <;> cases eqP f g b f' g' b' <;> simp
theorem equalC (d : Nat) (W : World) (r m n w f g b r' m' n' w' f' g' b' : Int) :
  (Op.equalIn (d + 3) 166 (.agg #[.int .i64 r, .int .i64 m, .int .i64 n, .int .u8 w, .int .u8 f, .int .u8 g, .int .u8 b]) (.agg #[.int .i64 r', .int .i64 m', .int .i64 n', .int .u8 w', .int .u8 f', .int .u8 g', .int .u8 b'])).run Tryz.prog W = .ok (eqC r m n w f g b r' m' n' w' f' g' b') W := by
 rw [run_equalIn_agg W (d + 2) 166 _ _ Tryz.underlying166 Tryz.stoodInHeld166]
 have h3 := fieldsC
 unfold fieldsAre at h3
 generalize (Tryz.prog.fieldsOf 166).toList = fs at h3
 have hl : fs.length = 4 := by have := congrArg List.length h3; simpa using this
 match fs, hl with
 | [f0, f1, f2, f3], _ =>
  simp only [List.map_cons, List.map_nil, List.cons.injEq, Prod.mk.injEq, beq_eq_false_iff_ne, ne_eq, and_true] at h3
  obtain ⟨⟨n0, t0, o0⟩, ⟨n1, t1, o1⟩, ⟨n2, t2, o2⟩, n3, t3, o3⟩ := h3
  simp only [Op.eqFields, n0, n1, n2, n3, t0, t1, t2, t3, o0, o1, o2, o3, ne_eq, not_false_eq_true, if_true, Sem.run_bind, partMI, partP,
   part3 #[Value.int .i64 r, .int .i64 m, .int .i64 n, .int .u8 w, .int .u8 f, .int .u8 g, .int .u8 b] 0 r rfl, part3 #[Value.int .i64 r', .int .i64 m', .int .i64 n', .int .u8 w', .int .u8 f', .int .u8 g', .int .u8 b'] 0 r' rfl,
   part5 #[Value.int .i64 r, .int .i64 m, .int .i64 n, .int .u8 w, .int .u8 f, .int .u8 g, .int .u8 b] 3 w rfl, part5 #[Value.int .i64 r', .int .i64 m', .int .i64 n', .int .u8 w', .int .u8 f', .int .u8 g', .int .u8 b'] 3 w' rfl,
   Result.andThen_ok, run_equalIn_int W (d + 1) 5 .u8 .u8 _ _ Tryz.underlying5, run_equalIn_int W (d + 1) 3 .i64 .i64 _ _ Tryz.underlying3, equalMI d, equalP 38 Tryz.underlying38 Tryz.stoodInHeld38 fieldsP d, Sem.run_ite, Sem.run_pure]
  unfold eqC
  cases r == r' <;> cases eqM m n m' n' <;> cases w == w' <;> cases eqP f g b f' g' b' <;> simp
theorem eqlPen (f g b f' g' b' : Int) (w : World) : (binOp .eql 65 (.agg #[.int .u8 f, .int .u8 g, .int .u8 b]) (.agg #[.int .u8 f', .int .u8 g', .int .u8 b'])).run Tryz.prog w = .ok (.bool (eqP f g b f' g' b')) w := by
 rw [run_eql_struct, equalP 65 Tryz.underlying65 Tryz.stoodInHeld65 fieldsPen 9998]; rfl
theorem eqlCell (W : World) (r m n w f g b r' m' n' w' f' g' b' : Int) :
  (binOp .eql 73 (.agg #[.int .i32 r, .int .i32 m, .int .i32 n, .int .u8 w, .int .u8 f, .int .u8 g, .int .u8 b]) (.agg #[.int .i32 r', .int .i32 m', .int .i32 n', .int .u8 w', .int .u8 f', .int .u8 g', .int .u8 b'])).run Tryz.prog W = .ok (.bool (eqC r m n w f g b r' m' n' w' f' g' b')) W := by
 rw [run_eql_struct, equalCell 9997]; rfl
theorem eqC_iff (r m n w f g b r' m' n' w' f' g' b' : Int) : eqC r m n w f g b r' m' n' w' f' g' b' = decide (r = r' ∧ m = m' ∧ n = n' ∧ w = w' ∧ f = f' ∧ g = g' ∧ b = b') := by
 unfold eqC eqM eqP; rw [Bool.eq_iff_iff]; simp; grind
theorem eqC_self (r m n w f g b : Int) : eqC r m n w f g b r m n w f g b = true := by rw [eqC_iff]; simp
end
end Go.Proofs.YtkijclgbpbhglaaGreatDoor
