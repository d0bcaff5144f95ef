/-
  Plain mathematics of layer 2 (utf): a scalar's bytes, the first scalar of bytes, all of them, what is left as a beginning, which bytes are right. No Go text, no program.
  Plain mathematics of layer 2 (utf), on: the order of bytes, the first scalar of bytes, all of them, what is left, which bytes are right.
  Plain mathematics of layer 8 (parse): events, what a byte does to a parser, what bytes tell, the numbers that are told.
  Plain mathematics of pens: flags set and taken away, one parameter's turn, turns by many, numbers, codes. Of no program.
  Plain mathematics of layer 9 (emu): what events do to an emulator; however bytes are cut; what stays right.
  The walk of the law LineMakes.
  A cell and a pen that came in, opened.
  A line that came in, opened.
-/
import Derived.Test.YtkijclgbpbhglaaGreatDoorQa1
import Derived.Test.YtkijclgbpbhglaaGreatDoorQa6
import Derived.Test.YtkijclgbpbhglaaGreatDoorQa4
import Derived.Test.YtkijclgbpbhglaaGreatDoorQa5
import Derived.Lib.SmallJoins
import Derived.Deep.Strs
import Derived.OpenShut
import Derived.Deep.Slices
namespace Go.Proofs.YtkijclgbpbhglaaGreatDoor
set_option maxRecDepth 100000
set_option linter.unusedVariables false

theorem isSc_iff (r : Int) : isSc r = true ↔ 0 ≤ r ∧ r ≤ 1114111 ∧ (r < 55296 ∨ 57343 < r) := by simp [isSc]
/-- What stands for a number: itself, or the broken one. -/
def fix (r : Int) : Int := if isSc r = true then r else 65533
theorem fix_sc (r : Int) : isSc (fix r) = true := by unfold fix; split; assumption; decide
theorem fix_of (r : Int) (h : isSc r = true) : fix r = r := by unfold fix; rw [if_pos h]

/-- A scalar's bytes. -/
def encS (r : Int) : List Int :=
  if r < 128 then [r] else if r < 2048 then [192 + r / 64, 128 + r % 64]
  else if r < 65536 then [224 + r / 4096, 128 + r / 64 % 64, 128 + r % 64]
  else [240 + r / 262144, 128 + r / 4096 % 64, 128 + r / 64 % 64, 128 + r % 64]
theorem encS1 {r : Int} (h : r < 128) : encS r = [r] := by unfold encS; rw [if_pos h]
theorem encS2 {r : Int} (h : ¬ r < 128) (h2 : r < 2048) : encS r = [192 + r / 64, 128 + r % 64] := by unfold encS; rw [if_neg h, if_pos h2]
theorem encS3 {r : Int} (h : ¬ r < 2048) (h2 : r < 65536) : encS r = [224 + r / 4096, 128 + r / 64 % 64, 128 + r % 64] := by unfold encS; rw [if_neg (by omega), if_neg h, if_pos h2]
theorem encS4 {r : Int} (h : ¬ r < 65536) : encS r = [240 + r / 262144, 128 + r / 4096 % 64, 128 + r / 64 % 64, 128 + r % 64] := by unfold encS; rw [if_neg (by omega), if_neg (by omega), if_neg h]
def encA : List Int → List Int
  | [] => []
  | r :: l => encS (fix r) ++ encA l
theorem encA_append (a b : List Int) : encA (a ++ b) = encA a ++ encA b := by induction a with
  | nil => rfl
  | cons r l ih => simp [encA, ih]
theorem encA_one (r : Int) : encA [r] = encS (fix r) := by simp [encA]
theorem encS_len (r : Int) : 1 ≤ (encS r).length ∧ (encS r).length ≤ 4 := by
  unfold encS; split; simp; split; simp; split <;> simp
theorem encA_len (l : List Int) : (encA l).length ≤ 4 * l.length := by induction l with
  | nil => simp [encA]
  | cons r l ih => have := encS_len (fix r); simp [encA]; omega

/-- How many bytes a scalar has that begins with this one. -/
def sz (c : Int) : Nat := if c ≤ 127 then 1 else if c < 194 then 0 else if c < 224 then 2 else if c < 240 then 3 else if c ≤ 244 then 4 else 0
def lo2 (c : Int) : Int := if c = 224 then 160 else if c = 240 then 144 else 128
def hi2 (c : Int) : Int := if c = 237 then 159 else if c = 244 then 143 else 191
theorem sz_le (c : Int) : sz c ≤ 4 := by unfold sz; split; omega; split; omega; split; omega; split; omega; split <;> omega
theorem sz1 {c : Int} (h : c ≤ 127) : sz c = 1 := by unfold sz; rw [if_pos h]
theorem sz0a {c : Int} (h : ¬ c ≤ 127) (h2 : c < 194) : sz c = 0 := by unfold sz; rw [if_neg h, if_pos h2]
theorem sz2 {c : Int} (h : ¬ c < 194) (h2 : c < 224) : sz c = 2 := by unfold sz; rw [if_neg (by omega), if_neg h, if_pos h2]
theorem sz3 {c : Int} (h : ¬ c < 224) (h2 : c < 240) : sz c = 3 := by unfold sz; rw [if_neg (by omega), if_neg (by omega), if_neg h, if_pos h2]
theorem sz4 {c : Int} (h : ¬ c < 240) (h2 : c ≤ 244) : sz c = 4 := by unfold sz; rw [if_neg (by omega), if_neg (by omega), if_neg (by omega), if_neg h, if_pos h2]
theorem sz0b {c : Int} (h : ¬ c ≤ 244) : sz c = 0 := by unfold sz; rw [if_neg (by omega), if_neg (by omega), if_neg (by omega), if_neg (by omega), if_neg h]
theorem sz_inv (c : Int) : (c ≤ 127 ∧ sz c = 1) ∨ (127 < c ∧ c < 194 ∧ sz c = 0) ∨ (194 ≤ c ∧ c < 224 ∧ sz c = 2) ∨ (224 ≤ c ∧ c < 240 ∧ sz c = 3) ∨ (240 ≤ c ∧ c ≤ 244 ∧ sz c = 4) ∨ (244 < c ∧ sz c = 0) := by
  by_cases h1 : c ≤ 127
  · exact .inl ⟨h1, sz1 h1⟩
  by_cases h2 : c < 194
  · exact .inr (.inl ⟨by omega, h2, sz0a h1 h2⟩)
  by_cases h3 : c < 224
  · exact .inr (.inr (.inl ⟨by omega, h3, sz2 h2 h3⟩))
  by_cases h4 : c < 240
  · exact .inr (.inr (.inr (.inl ⟨by omega, h4, sz3 h3 h4⟩)))
  by_cases h5 : c ≤ 244
  · exact .inr (.inr (.inr (.inr (.inl ⟨by omega, h5, sz4 h4 h5⟩))))
  · exact .inr (.inr (.inr (.inr (.inr ⟨by omega, sz0b h5⟩))))
theorem lo2_inv (c : Int) : (c = 224 ∧ lo2 c = 160) ∨ (c = 240 ∧ lo2 c = 144) ∨ (c ≠ 224 ∧ c ≠ 240 ∧ lo2 c = 128) := by
  unfold lo2; split; omega; split <;> omega
theorem hi2_inv (c : Int) : (c = 237 ∧ hi2 c = 159) ∨ (c = 244 ∧ hi2 c = 143) ∨ (c ≠ 237 ∧ c ≠ 244 ∧ hi2 c = 191) := by
  unfold hi2; split; omega; split <;> omega

/-- How many of bytes, at most k, go on. -/
def run (lo hi : Int) : Nat → List Int → Nat
  | 0, _ => 0
  | _, [] => 0
  | k + 1, c :: r => if lo ≤ c ∧ c ≤ hi then 1 + run 128 191 k r else 0
/-- How many of bytes some scalar begins with. -/
def fit : List Int → Nat
  | [] => 0
  | c :: r => if sz c = 0 then 0 else 1 + run (lo2 c) (hi2 c) (sz c - 1) r

theorem run_nil (lo hi : Int) (k : Nat) : run lo hi k [] = 0 := by cases k <;> rfl
theorem run_zero (lo hi : Int) (r : List Int) : run lo hi 0 r = 0 := rfl
theorem run_yes {lo hi : Int} {k : Nat} {c : Int} {r : List Int} (h : lo ≤ c ∧ c ≤ hi) : run lo hi (k + 1) (c :: r) = 1 + run 128 191 k r := by rw [run, if_pos h]
theorem run_no {lo hi : Int} {k : Nat} {c : Int} {r : List Int} (h : ¬ (lo ≤ c ∧ c ≤ hi)) : run lo hi (k + 1) (c :: r) = 0 := by rw [run, if_neg h]
theorem run_le (p : List Int) : ∀ lo hi k, run lo hi k p ≤ p.length ∧ run lo hi k p ≤ k := by
  induction p with
  | nil => intro lo hi k; rw [run_nil]; omega
  | cons c r ih =>
    intro lo hi k
    cases k with
    | zero => rw [run_zero]; omega
    | succ k =>
      by_cases h : lo ≤ c ∧ c ≤ hi
      · rw [run_yes h]; have := ih 128 191 k; simp; omega
      · rw [run_no h]; simp
theorem run_append (p t : List Int) : ∀ lo hi k, (run lo hi k p < p.length → run lo hi k (p ++ t) = run lo hi k p) ∧ run lo hi k p ≤ run lo hi k (p ++ t) := by
  induction p with
  | nil => intro lo hi k; rw [run_nil]; simp
  | cons c r ih =>
    intro lo hi k
    cases k with
    | zero => rw [run_zero]; simp [run_zero]
    | succ k =>
      rw [List.cons_append]
      by_cases h : lo ≤ c ∧ c ≤ hi
      · rw [run_yes h, run_yes h]
        have := ih 128 191 k
        refine ⟨fun hl => ?_, by omega⟩
        rw [this.1 (by simp at hl; omega)]
      · rw [run_no h, run_no h]; simp
theorem fit_zero {c : Int} {r : List Int} (h : sz c = 0) : fit (c :: r) = 0 := by rw [fit, if_pos h]
theorem fit_pos {c : Int} {r : List Int} (h : ¬ sz c = 0) : fit (c :: r) = 1 + run (lo2 c) (hi2 c) (sz c - 1) r := by rw [fit, if_neg h]
theorem fit_le (p : List Int) : fit p ≤ p.length := by
  cases p with
  | nil => simp [fit]
  | cons c r =>
    by_cases h : sz c = 0
    · rw [fit_zero h]; omega
    · rw [fit_pos h]; have := run_le r (lo2 c) (hi2 c) (sz c - 1); simp; omega
theorem fit_sz (c : Int) (r : List Int) : fit (c :: r) ≤ sz c := by
  by_cases h : sz c = 0
  · rw [fit_zero h]; omega
  · rw [fit_pos h]; have := run_le r (lo2 c) (hi2 c) (sz c - 1); omega
theorem fit_append (p t : List Int) : (fit p < p.length → fit (p ++ t) = fit p) ∧ fit p ≤ fit (p ++ t) := by
  cases p with
  | nil => simp [fit]
  | cons c r =>
    rw [List.cons_append]
    by_cases h : sz c = 0
    · rw [fit_zero h, fit_zero h]; simp
    · rw [fit_pos h, fit_pos h]
      have := run_append r t (lo2 c) (hi2 c) (sz c - 1)
      refine ⟨fun hl => ?_, by omega⟩
      rw [this.1 (by simp at hl; omega)]
theorem fit_take (b : List Int) (k : Nat) (hk : k ≤ b.length) : (fit (b.take k) = k ↔ k ≤ fit b) := by
  have h := fit_append (b.take k) (b.drop k)
  rw [List.take_append_drop] at h
  have hl := fit_le (b.take k)
  have hx : (b.take k).length = k := by rw [List.length_take]; omega
  rw [hx] at h hl
  constructor
  · intro e; omega
  · intro e
    rcases Nat.lt_or_ge (fit (b.take k)) k with h1 | h1
    · have := h.1 h1; omega
    · omega

/-- The number of just these bytes. -/
def joinV : List Int → Int
  | [a] => a
  | [a, b] => (a - 192) * 64 + b - 128
  | [a, b, c] => (a - 224) * 4096 + (b - 128) * 64 + c - 128
  | [a, b, c, d] => (a - 240) * 262144 + (b - 128) * 4096 + (c - 128) * 64 + d - 128
  | _ => 0

/-- What a whole scalar's bytes look like. -/
inductive Full : List Int → Prop
  | one {a} (h0 : 0 ≤ a) (h : a ≤ 127) : Full [a]
  | two {a b} (h : 194 ≤ a ∧ a < 224) (h1 : 128 ≤ b ∧ b ≤ 191) : Full [a, b]
  | three {a b c} (h : 224 ≤ a ∧ a < 240) (h1 : lo2 a ≤ b ∧ b ≤ hi2 a) (h2 : 128 ≤ c ∧ c ≤ 191) : Full [a, b, c]
  | four {a b c d} (h : 240 ≤ a ∧ a ≤ 244) (h1 : lo2 a ≤ b ∧ b ≤ hi2 a) (h2 : 128 ≤ c ∧ c ≤ 191) (h3 : 128 ≤ d ∧ d ≤ 191) : Full [a, b, c, d]

theorem full_enc (r : Int) (h : isSc r = true) : Full (encS r) := by
  rw [isSc_iff] at h
  by_cases h1 : r < 128
  · rw [encS1 h1]; exact .one (by omega) (by omega)
  by_cases h2 : r < 2048
  · rw [encS2 h1 h2]; exact .two (by omega) (by omega)
  by_cases h3 : r < 65536
  · rw [encS3 h2 h3]
    have := lo2_inv (224 + r / 4096)
    have := hi2_inv (224 + r / 4096)
    exact .three (by omega) (by omega) (by omega)
  · rw [encS4 h3]
    have := lo2_inv (240 + r / 262144)
    have := hi2_inv (240 + r / 262144)
    exact .four (by omega) (by omega) (by omega) (by omega)
theorem full_join {p : List Int} (h : Full p) : isSc (joinV p) = true ∧ encS (joinV p) = p := by
  rw [isSc_iff]
  cases h with
  | one h0 h => refine ⟨by simp only [joinV]; omega, ?_⟩; simp only [joinV]; rw [encS1 (by omega)]
  | two h h1 =>
    refine ⟨by simp only [joinV]; omega, ?_⟩
    simp only [joinV]; rw [encS2 (by omega) (by omega)]; congr 1
    · omega
    · congr 1; omega
  | @three a b c h h1 h2 =>
    have := lo2_inv a
    have := hi2_inv a
    refine ⟨by simp only [joinV]; omega, ?_⟩
    simp only [joinV]; rw [encS3 (by omega) (by omega)]; congr 1
    · omega
    · congr 1
      · omega
      · congr 1; omega
  | @four a b c d h h1 h2 h3 =>
    have := lo2_inv a
    have := hi2_inv a
    refine ⟨by simp only [joinV]; omega, ?_⟩
    simp only [joinV]; rw [encS4 (by omega)]; congr 1
    · omega
    · congr 1
      · omega
      · congr 1
        · omega
        · congr 1; omega
theorem run_inv {lo hi : Int} {k : Nat} {c : Int} {r : List Int} {n : Nat} (h : run lo hi k (c :: r) = n + 1) : (lo ≤ c ∧ c ≤ hi) ∧ run 128 191 (k - 1) r = n := by
  cases k with
  | zero => rw [run_zero] at h; omega
  | succ k =>
    by_cases hc : lo ≤ c ∧ c ≤ hi
    · rw [run_yes hc] at h; exact ⟨hc, by simp; omega⟩
    · rw [run_no hc] at h; omega
theorem fit_full {c : Int} {r : List Int} (h0 : 0 ≤ c) (h : fit (c :: r) = sz c) (hl : (c :: r).length = sz c) : Full (c :: r) := by
  rcases sz_inv c with ⟨h1, e⟩ | ⟨_, _, e⟩ | ⟨h1, h2, e⟩ | ⟨h1, h2, e⟩ | ⟨h1, h2, e⟩ | ⟨_, e⟩
  · rw [e] at hl
    match r, hl with
    | [], _ => exact .one h0 h1
  · rw [e] at hl; simp at hl
  · rw [fit, e] at h
    rw [e] at hl
    match r, hl, h with
    | [b], _, h =>
      have := lo2_inv c
      have := hi2_inv c
      simp only [Nat.reduceSub, Nat.reduceEqDiff, if_false] at h
      obtain ⟨q, _⟩ := run_inv (n := 0) (by omega : run (lo2 c) (hi2 c) 1 [b] = 0 + 1)
      exact .two ⟨h1, h2⟩ (by omega)
  · rw [fit, e] at h
    rw [e] at hl
    match r, hl, h with
    | [b, d], _, h =>
      simp only [Nat.reduceSub, Nat.reduceEqDiff, if_false] at h
      obtain ⟨q, h⟩ := run_inv (n := 1) (by omega : run (lo2 c) (hi2 c) 2 [b, d] = 1 + 1)
      obtain ⟨q', _⟩ := run_inv (n := 0) h
      exact .three ⟨h1, h2⟩ q q'
  · rw [fit, e] at h
    rw [e] at hl
    match r, hl, h with
    | [b, d, f], _, h =>
      simp only [Nat.reduceSub, Nat.reduceEqDiff, if_false] at h
      obtain ⟨q, h⟩ := run_inv (n := 2) (by omega : run (lo2 c) (hi2 c) 3 [b, d, f] = 2 + 1)
      obtain ⟨q', h⟩ := run_inv (n := 1) h
      obtain ⟨q'', _⟩ := run_inv (n := 0) h
      exact .four ⟨h1, h2⟩ q q' q''
  · rw [e] at hl; simp at hl

end Go.Proofs.YtkijclgbpbhglaaGreatDoor

namespace Go.Proofs.YtkijclgbpbhglaaGreatDoor
set_option maxRecDepth 100000
set_option linter.unusedVariables false

/-- The first scalar of bytes, and how many it has. -/
def first : List Int → Int × Nat
  | [] => (0, 0)
  | c :: r => if fit (c :: r) = 0 then (65533, 1) else if fit (c :: r) = sz c then (joinV ((c :: r).take (fit (c :: r))), fit (c :: r))
      else if fit (c :: r) = (c :: r).length then (0, 0) else (65533, fit (c :: r))
theorem first_zero {c : Int} {r : List Int} (h : fit (c :: r) = 0) : first (c :: r) = (65533, 1) := by rw [first, if_pos h]
theorem first_whole {c : Int} {r : List Int} (h : ¬ fit (c :: r) = 0) (h2 : fit (c :: r) = sz c) : first (c :: r) = (joinV ((c :: r).take (fit (c :: r))), fit (c :: r)) := by rw [first, if_neg h, if_pos h2]
theorem first_held {c : Int} {r : List Int} (h2 : ¬ fit (c :: r) = sz c) (h3 : fit (c :: r) = (c :: r).length) : first (c :: r) = (0, 0) := by
  rw [first, if_neg (by rw [h3]; simp), if_neg h2, if_pos h3]
theorem first_broken {c : Int} {r : List Int} (h : ¬ fit (c :: r) = 0) (h2 : ¬ fit (c :: r) = sz c) (h3 : ¬ fit (c :: r) = (c :: r).length) : first (c :: r) = (65533, fit (c :: r)) := by
  rw [first, if_neg h, if_neg h2, if_neg h3]
theorem first_le (b : List Int) : (first b).2 ≤ b.length := by
  cases b with
  | nil => simp [first]
  | cons c r =>
    have hl := fit_le (c :: r)
    by_cases h : fit (c :: r) = 0
    · rw [first_zero h]; simp
    by_cases h2 : fit (c :: r) = sz c
    · rw [first_whole h h2]; exact hl
    by_cases h3 : fit (c :: r) = (c :: r).length
    · rw [first_held h2 h3]; simp
    · rw [first_broken h h2 h3]; exact hl
theorem take_full {c : Int} {r : List Int} (hb : 0 ≤ c) (h : ¬ fit (c :: r) = 0) (h2 : fit (c :: r) = sz c) : Full ((c :: r).take (fit (c :: r))) ∧ ((c :: r).take (fit (c :: r))).length = sz c := by
  have hl := fit_le (c :: r)
  have ht := (fit_take (c :: r) (fit (c :: r)) hl).2 (Nat.le_refl _)
  have hlen : ((c :: r).take (fit (c :: r))).length = fit (c :: r) := by rw [List.length_take]; omega
  obtain ⟨k, hk⟩ : ∃ k, fit (c :: r) = k + 1 := ⟨fit (c :: r) - 1, by omega⟩
  rw [hk] at ht hlen ⊢
  rw [List.take_succ_cons] at ht hlen ⊢
  exact ⟨fit_full hb (by omega) (by omega), by omega⟩
/-- What is told is a scalar. -/
theorem first_sc (b : List Int) (hb : Byte b) (h : (first b).2 ≠ 0) : isSc (first b).1 = true := by
  cases b with
  | nil => simp [first] at h
  | cons c r =>
    by_cases h1 : fit (c :: r) = 0
    · rw [first_zero h1]; decide
    by_cases h2 : fit (c :: r) = sz c
    · rw [first_whole h1 h2]; exact (full_join (take_full (hb c (by simp)).1 h1 h2).1).1
    by_cases h3 : fit (c :: r) = (c :: r).length
    · rw [first_held h2 h3] at h; simp at h
    · rw [first_broken h1 h2 h3]; show isSc 65533 = true; decide
theorem first_range (b : List Int) (hb : Byte b) : 0 ≤ (first b).1 ∧ (first b).1 ≤ 1114111 := by
  by_cases h : (first b).2 = 0
  · cases b with
    | nil => simp [first]
    | cons c r =>
      by_cases h1 : fit (c :: r) = 0
      · rw [first_zero h1] at h; simp at h
      by_cases h2 : fit (c :: r) = sz c
      · rw [first_whole h1 h2] at h; simp at h; omega
      by_cases h3 : fit (c :: r) = (c :: r).length
      · rw [first_held h2 h3]; simp
      · rw [first_broken h1 h2 h3] at h; simp at h; omega
  · have := (isSc_iff _).1 (first_sc b hb h); omega
/-- What is told stays told, whatever comes behind. -/
theorem first_append (b t : List Int) (h : (first b).2 ≠ 0) : first (b ++ t) = first b := by
  cases b with
  | nil => simp [first] at h
  | cons c r =>
    have ha := fit_append (c :: r) t
    have hl := fit_le (c :: r)
    have hs := fit_sz c (r ++ t)
    rw [List.cons_append] at ha ⊢
    by_cases h1 : fit (c :: r) = 0
    · have := ha.1 (by rw [h1]; simp)
      rw [first_zero h1, first_zero (by omega)]
    by_cases h2 : fit (c :: r) = sz c
    · have e : fit (c :: (r ++ t)) = fit (c :: r) := by omega
      rw [first_whole h1 h2, first_whole (by omega) (by omega), e, ← List.cons_append, List.take_append_of_le_length hl]
    by_cases h3 : fit (c :: r) = (c :: r).length
    · rw [first_held h2 h3] at h; simp at h
    · have e := ha.1 (by omega)
      rw [first_broken h1 h2 h3, first_broken (by omega) (by omega) ?_, e]
      rw [e]; simp at h3 hl ⊢; omega
theorem first_held_len (b : List Int) (h : (first b).2 = 0) : b.length ≤ 3 := by
  cases b with
  | nil => simp
  | cons c r =>
    have := fit_sz c r
    have := sz_le c
    by_cases h1 : fit (c :: r) = 0
    · rw [first_zero h1] at h; simp at h
    by_cases h2 : fit (c :: r) = sz c
    · rw [first_whole h1 h2] at h; simp at h; omega
    by_cases h3 : fit (c :: r) = (c :: r).length
    · omega
    · rw [first_broken h1 h2 h3] at h; simp at h; omega
/-- All scalars of bytes, and what is held behind them. -/
def cut (b : List Int) : List Int × List Int :=
  if h : (first b).2 = 0 then ([], b) else ((first b).1 :: (cut (b.drop (first b).2)).1, (cut (b.drop (first b).2)).2)
  termination_by b.length
  decreasing_by all_goals (have := first_le b; rw [List.length_drop]; omega)
theorem cut_held {b : List Int} (h : (first b).2 = 0) : cut b = ([], b) := by rw [cut, dif_pos h]
theorem cut_step {b : List Int} (h : (first b).2 ≠ 0) : cut b = ((first b).1 :: (cut (b.drop (first b).2)).1, (cut (b.drop (first b).2)).2) := by rw [cut, dif_neg h]
theorem cut_nil : cut [] = ([], []) := cut_held rfl
theorem cut_append (n : Nat) : ∀ x y, x.length = n → cut (x ++ y) = ((cut x).1 ++ (cut ((cut x).2 ++ y)).1, (cut ((cut x).2 ++ y)).2) := by
  induction n using Nat.strongRecOn with
  | _ n ih =>
    intro x y hn
    by_cases h : (first x).2 = 0
    · rw [cut_held h]; simp
    · have hl := first_le x
      have e := first_append x y h
      rw [cut_step h, cut_step (b := x ++ y) (by rw [e]; exact h), e, List.drop_append_of_le_length hl]
      have := ih (x.drop (first x).2).length (by rw [List.length_drop]; omega) (x.drop (first x).2) y rfl
      rw [this]; simp
theorem cut_append' (x y : List Int) : cut (x ++ y) = ((cut x).1 ++ (cut ((cut x).2 ++ y)).1, (cut ((cut x).2 ++ y)).2) := cut_append _ x y rfl
theorem cut_facts (n : Nat) : ∀ b, b.length = n → (first (cut b).2).2 = 0 ∧ (Byte b → (∀ r ∈ (cut b).1, isSc r = true) ∧ Byte (cut b).2) ∧ (cut b).1.length ≤ b.length := by
  induction n using Nat.strongRecOn with
  | _ n ih =>
    intro b hn
    by_cases h : (first b).2 = 0
    · rw [cut_held h]; exact ⟨h, fun hb => ⟨by simp, hb⟩, by simp⟩
    · have hl := first_le b
      rw [cut_step h]
      have := ih (b.drop (first b).2).length (by rw [List.length_drop]; omega) (b.drop (first b).2) rfl
      refine ⟨this.1, fun hb => ?_, ?_⟩
      · have q := this.2.1 (hb.drop _)
        refine ⟨fun r hr => ?_, q.2⟩
        rcases List.mem_cons.1 hr with rfl | hr
        · exact first_sc b hb h
        · exact q.1 r hr
      · have := this.2.2; rw [List.length_drop] at this; simp; omega
theorem cut_rest (b : List Int) : (first (cut b).2).2 = 0 := (cut_facts _ b rfl).1
theorem cut_len (b : List Int) : (cut b).1.length ≤ b.length := (cut_facts _ b rfl).2.2
theorem cut_sc (b : List Int) (hb : Byte b) : ∀ r ∈ (cut b).1, isSc r = true := ((cut_facts _ b rfl).2.1 hb).1
theorem cut_byte (b : List Int) (hb : Byte b) : Byte (cut b).2 := ((cut_facts _ b rfl).2.1 hb).2

theorem encS_byte (r : Int) (h : isSc r = true) : Byte (encS r) := by
  rw [isSc_iff] at h
  intro x hx
  by_cases h1 : r < 128
  · rw [encS1 h1] at hx; simp at hx; omega
  by_cases h2 : r < 2048
  · rw [encS2 h1 h2] at hx; simp at hx; omega
  by_cases h3 : r < 65536
  · rw [encS3 h2 h3] at hx; simp at hx; omega
  · rw [encS4 h3] at hx; simp at hx; omega
theorem encA_byte (l : List Int) : Byte (encA l) := by
  induction l with
  | nil => intro x hx; simp [encA] at hx
  | cons r l ih => exact (encS_byte _ (fix_sc r)).append ih
end Go.Proofs.YtkijclgbpbhglaaGreatDoor

namespace Go.Proofs.YtkijclgbpbhglaaGreatDoor
set_option maxRecDepth 100000
set_option linter.unusedVariables false

/-- An event. -/
structure Ev where
  k : Int
  r : Int
  n : List Int
/-- A parser: its state, its numbers (all of them), what is held. -/
structure Ps where
  st : Int
  n : List Int
  h : List Int
def p0 : Ps := ⟨0, [], []⟩
/-- What is held, told. -/
def brkE (h : List Int) : List Ev := if h = [] then [] else [⟨1, 65533, []⟩]
def prE (l : List Int) : List Ev := l.map fun r => ⟨1, r, []⟩
/-- The last number, a digit more. -/
def digV (x d : Int) : Int := if 10 * (if x < 0 then 0 else x) + d > 9999 then 9999 else 10 * (if x < 0 then 0 else x) + d
def digN (n : List Int) (d : Int) : List Int := if n = [] then [d] else n.take (n.length - 1) ++ [digV (n.getD (n.length - 1) 0) d]
def semiN (n : List Int) : List Int := if n = [] then [-1, -1] else n ++ [-1]
/-- The states behind a byte in Between, in Escape; does a byte end a sequence? -/
def bbetN (b : Int) : Int := if b ≤ 47 then 2 else 0
def bescN (b : Int) : Int := if b = 91 then 3 else bbetN b
def finB (b : Int) : Bool := decide (64 ≤ b ∧ b ≤ 126)
/-- A byte. -/
def stepP (p : Ps) (b : Int) : Ps × List Ev :=
  if b = 24 ∨ b = 26 then (⟨0, p.n, []⟩, brkE p.h ++ [⟨2, b, []⟩])
  else if b = 27 then (⟨1, [], []⟩, brkE p.h)
  else if b < 32 ∨ b = 127 then (⟨p.st, p.n, []⟩, brkE p.h ++ [⟨2, b, []⟩])
  else if 128 ≤ b ∨ p.st = 0 then (⟨0, p.n, (cut (p.h ++ [b])).2⟩, prE (cut (p.h ++ [b])).1)
  else if p.st = 1 then (⟨bescN b, p.n, p.h⟩, [])
  else if p.st = 2 then (⟨bbetN b, p.n, p.h⟩, [])
  else if p.st = 3 then
    if 48 ≤ b ∧ b ≤ 57 then (⟨3, digN p.n (b - 48), p.h⟩, [])
    else if b = 59 then (⟨3, semiN p.n, p.h⟩, [])
    else if 64 ≤ b then (⟨0, p.n, p.h⟩, [⟨3, b, p.n.take 8⟩])
    else (⟨4, p.n, p.h⟩, [])
  else (⟨if 64 ≤ b then 0 else p.st, p.n, p.h⟩, [])
section
variable {p : Ps} {b : Int}
theorem step_cancel (h : b = 24 ∨ b = 26) : stepP p b = (⟨0, p.n, []⟩, brkE p.h ++ [⟨2, b, []⟩]) := by unfold stepP; rw [if_pos h]
theorem step_esc (h : b = 27) : stepP p b = (⟨1, [], []⟩, brkE p.h) := by unfold stepP; rw [if_neg (by omega), if_pos h]
theorem step_ctl (h1 : ¬ b = 24) (h2 : ¬ b = 26) (h3 : ¬ b = 27) (h : b < 32 ∨ b = 127) : stepP p b = (⟨p.st, p.n, []⟩, brkE p.h ++ [⟨2, b, []⟩]) := by
  unfold stepP; rw [if_neg (by omega), if_neg h3, if_pos h]
theorem step_take (h1 : 32 ≤ b) (h2 : ¬ b = 127) (h : 128 ≤ b ∨ p.st = 0) : stepP p b = (⟨0, p.n, (cut (p.h ++ [b])).2⟩, prE (cut (p.h ++ [b])).1) := by
  unfold stepP; rw [if_neg (by omega), if_neg (by omega), if_neg (by omega), if_pos h]
theorem step_s1 (h1 : 32 ≤ b) (h2 : b < 127) (h : p.st = 1) : stepP p b = (⟨bescN b, p.n, p.h⟩, []) := by
  unfold stepP; rw [if_neg (by omega), if_neg (by omega), if_neg (by omega), if_neg (by omega), if_pos h]
theorem step_s2 (h1 : 32 ≤ b) (h2 : b < 127) (h : p.st = 2) : stepP p b = (⟨bbetN b, p.n, p.h⟩, []) := by
  unfold stepP; rw [if_neg (by omega), if_neg (by omega), if_neg (by omega), if_neg (by omega), if_neg (by omega), if_pos h]
theorem step_dig (h1 : 48 ≤ b) (h2 : b ≤ 57) (h : p.st = 3) : stepP p b = (⟨3, digN p.n (b - 48), p.h⟩, []) := by
  unfold stepP; rw [if_neg (by omega), if_neg (by omega), if_neg (by omega), if_neg (by omega), if_neg (by omega), if_neg (by omega), if_pos h, if_pos ⟨h1, h2⟩]
theorem step_semi (h1 : b = 59) (h : p.st = 3) : stepP p b = (⟨3, semiN p.n, p.h⟩, []) := by
  unfold stepP; rw [if_neg (by omega), if_neg (by omega), if_neg (by omega), if_neg (by omega), if_neg (by omega), if_neg (by omega), if_pos h, if_neg (by omega), if_pos h1]
theorem step_fin (h1 : 64 ≤ b) (h2 : b < 127) (h : p.st = 3) : stepP p b = (⟨0, p.n, p.h⟩, [⟨3, b, p.n.take 8⟩]) := by
  unfold stepP; rw [if_neg (by omega), if_neg (by omega), if_neg (by omega), if_neg (by omega), if_neg (by omega), if_neg (by omega), if_pos h, if_neg (by omega), if_neg (by omega), if_pos h1]
theorem step_idle (h1 : 32 ≤ b) (h2 : b < 64) (h3 : b < 48 ∨ 57 < b) (h4 : ¬ b = 59) (h : p.st = 3) : stepP p b = (⟨4, p.n, p.h⟩, []) := by
  unfold stepP; rw [if_neg (by omega), if_neg (by omega), if_neg (by omega), if_neg (by omega), if_neg (by omega), if_neg (by omega), if_pos h, if_neg (by omega), if_neg (by omega), if_neg (by omega)]
theorem step_s4 (h1 : 32 ≤ b) (h2 : b < 127) (h : p.st = 4) : stepP p b = (⟨if 64 ≤ b then 0 else 4, p.n, p.h⟩, []) := by
  unfold stepP; rw [if_neg (by omega), if_neg (by omega), if_neg (by omega), if_neg (by omega), if_neg (by omega), if_neg (by omega), if_neg (by omega), h]
end

/-- Numbers that a parser may have. -/
def NumOk (n : List Int) : Prop := ∀ x ∈ n, -1 ≤ x ∧ x ≤ 9999
/-- What a parser always is. -/
structure PsOk (p : Ps) : Prop where
  held : (first p.h).2 = 0
  byte : Byte p.h
  st0 : 0 ≤ p.st
  st4 : p.st ≤ 4
  num : NumOk p.n
theorem ok0 : PsOk p0 := ⟨rfl, (by intro x hx; simp [p0] at hx), by simp [p0], by simp [p0], by intro x hx; simp [p0] at hx⟩
theorem PsOk.len {p : Ps} (h : PsOk p) : p.h.length ≤ 3 := first_held_len _ h.held
theorem dig_range (x d : Int) (h0 : 0 ≤ d) (hx : x ≤ 9999) : -1 ≤ digV x d ∧ digV x d ≤ 9999 := by unfold digV; split <;> split at * <;> omega
theorem NumOk.dig {n : List Int} (h : NumOk n) (d : Int) (h0 : 0 ≤ d) (h9 : d ≤ 9) : NumOk (digN n d) := by
  unfold digN
  split
  · intro x hx; simp at hx; omega
  · rename_i hn
    intro x hx
    rcases List.mem_append.1 hx with q | q
    · exact h x (List.mem_of_mem_take q)
    · simp only [List.mem_singleton] at q
      subst q
      have hm : n.getD (n.length - 1) 0 ∈ n := getD_mem n _ (by have := List.length_pos_iff.2 hn; omega)
      exact dig_range _ d h0 (h _ hm).2
theorem NumOk.semi {n : List Int} (h : NumOk n) : NumOk (semiN n) := by
  unfold semiN
  split
  · intro x hx; simp at hx; omega
  · intro x hx
    rcases List.mem_append.1 hx with q | q
    · exact h x q
    · simp at q; omega
theorem dig_len (n : List Int) (d : Int) : (digN n d).length ≤ n.length + 1 := by
  unfold digN; split
  · simp
  · rename_i h; have := List.length_pos_iff.2 h; simp <;> omega
theorem semi_len (n : List Int) : (semiN n).length ≤ n.length + 2 := by
  unfold semiN; split <;> simp
theorem brk_len (h : List Int) : (brkE h).length ≤ 1 := by unfold brkE; split <;> simp
theorem step_ok (p : Ps) (b : Int) (h : PsOk p) (h0 : 0 ≤ b) (h1 : b ≤ 255) : PsOk (stepP p b).1 := by
  have hb : Byte (p.h ++ [b]) := h.byte.append (by intro x hx; simp at hx; omega)
  have nil : (first ([] : List Int)).2 = 0 := rfl
  have nilb : Byte ([] : List Int) := by intro x hx; simp at hx
  have niln : NumOk ([] : List Int) := by intro x hx; simp at hx
  unfold stepP
  have a0 := h.st0
  have a4 := h.st4
  have b1 : 0 ≤ bbetN b ∧ bbetN b ≤ 4 := by unfold bbetN; split <;> omega
  have b2 : 0 ≤ bescN b ∧ bescN b ≤ 4 := by unfold bescN; split <;> omega
  repeat' split
  all_goals first
    | (refine ⟨nil, nilb, ?_, ?_, h.num⟩ <;> dsimp only <;> omega)
    | (refine ⟨nil, nilb, ?_, ?_, niln⟩ <;> dsimp only <;> omega)
    | (refine ⟨cut_rest _, cut_byte _ hb, ?_, ?_, h.num⟩ <;> dsimp only <;> omega)
    | (refine ⟨h.held, h.byte, ?_, ?_, h.num⟩ <;> dsimp only <;> omega)
    | (refine ⟨h.held, h.byte, ?_, ?_, h.num.dig _ (by omega) (by omega)⟩ <;> dsimp only <;> omega)
    | (refine ⟨h.held, h.byte, ?_, ?_, h.num.semi⟩ <;> dsimp only <;> omega)
theorem step_n (p : Ps) (b : Int) : (stepP p b).1.n.length ≤ p.n.length + 2 := by
  have := dig_len p.n (b - 48)
  have := semi_len p.n
  unfold stepP
  repeat' split
  all_goals (dsimp only; first | omega | simp)
theorem step_e (p : Ps) (b : Int) (h : PsOk p) : (stepP p b).2.length ≤ 4 := by
  have := brk_len p.h
  have := cut_len (p.h ++ [b])
  have := h.len
  unfold stepP
  repeat' split
  all_goals (simp only [List.length_append, List.length_cons, List.length_nil, prE, List.length_map] at *; omega)

/-- Bytes, one by one. -/
def feedP (p : Ps) : List Int → Ps × List Ev
  | [] => (p, [])
  | b :: bs => ((feedP (stepP p b).1 bs).1, (stepP p b).2 ++ (feedP (stepP p b).1 bs).2)
theorem feed_append (x y : List Int) : ∀ p, feedP p (x ++ y) = ((feedP (feedP p x).1 y).1, (feedP p x).2 ++ (feedP (feedP p x).1 y).2) := by
  induction x with
  | nil => intro p; simp [feedP]
  | cons b x ih => intro p; simp [feedP, ih]
theorem feed_snoc (p : Ps) (x : List Int) (b : Int) : feedP p (x ++ [b]) = ((stepP (feedP p x).1 b).1, (feedP p x).2 ++ (stepP (feedP p x).1 b).2) := by
  rw [feed_append]; simp [feedP]
theorem feed_facts (bs : List Int) : ∀ p, PsOk p → Byte bs → PsOk (feedP p bs).1 ∧ (feedP p bs).1.n.length ≤ p.n.length + 2 * bs.length ∧ (feedP p bs).2.length ≤ 4 * bs.length := by
  induction bs with
  | nil => intro p h _; exact ⟨h, by simp [feedP], by simp [feedP]⟩
  | cons b bs ih =>
    intro p h hb
    have hb0 := hb b (by simp)
    obtain ⟨q1, q2, q3⟩ := ih (stepP p b).1 (step_ok p b h hb0.1 hb0.2) (fun x hx => hb x (by simp [hx]))
    have := step_n p b
    have := step_e p b h
    refine ⟨q1, ?_, ?_⟩
    · simp only [feedP, List.length_cons]; omega
    · simp only [feedP, List.length_append, List.length_cons]; omega
def restP (p : Ps) : Bool := decide (p.st = 0) && decide (p.h = [])

/-! ### events whose scalars are runes -/
def EvB (e : Ev) : Prop := -2147483648 ≤ e.r ∧ e.r ≤ 2147483647 ∧ e.n.length ≤ 9223372036854775807
theorem step_b (p : Ps) (b : Int) (h : PsOk p) (h0 : 0 ≤ b) (h1 : b ≤ 255) : ∀ e ∈ (stepP p b).2, EvB e := by
  have hb : Byte (p.h ++ [b]) := h.byte.append (by intro x hx; simp at hx; omega)
  have hbrk : ∀ e ∈ brkE p.h, EvB e := by
    intro e he; unfold brkE at he; split at he
    · simp at he
    · simp at he; subst he; exact ⟨by decide, by decide, by simp⟩
  have hone : ∀ e ∈ brkE p.h ++ [⟨2, b, []⟩], EvB e := by
    intro e he
    rcases List.mem_append.1 he with q | q
    · exact hbrk e q
    · simp at q; subst q; exact ⟨by show -2147483648 ≤ b; omega, by show b ≤ 2147483647; omega, by simp⟩
  unfold stepP
  repeat' split
  all_goals first
    | exact hone
    | exact hbrk
    | (intro e he; simp at he; done)
    | (intro e he; simp at he; subst he; exact ⟨by show -2147483648 ≤ b; omega, by show b ≤ 2147483647; omega, by show (p.n.take 8).length ≤ _; rw [List.length_take]; omega⟩)
    | (intro e he
       simp only [prE, List.mem_map] at he
       obtain ⟨r, hr, rfl⟩ := he
       have := (isSc_iff r).1 (cut_sc _ hb r hr)
       exact ⟨by show -2147483648 ≤ r; omega, by show r ≤ 2147483647; omega, by simp⟩)
theorem feed_b (bs : List Int) : ∀ p, PsOk p → Byte bs → ∀ e ∈ (feedP p bs).2, EvB e := by
  induction bs with
  | nil => intro p _ _ e he; simp [feedP] at he
  | cons b bs ih =>
    intro p h hb e he
    have hb0 := hb b (by simp)
    simp only [feedP] at he
    rcases List.mem_append.1 he with q | q
    · exact step_b p b h hb0.1 hb0.2 e q
    · exact ih _ (step_ok p b h hb0.1 hb0.2) (fun x hx => hb x (by simp [hx])) e q

/-! ### the program's nine numbers -/
structure Args (l n : List Int) : Prop where
  len : l.length = 9
  num : NumOk l
  eq : l.take (min n.length 8) = n.take 8
theorem NumOk.set {l : List Int} (h : NumOk l) (i : Nat) (x : Int) (h0 : -1 ≤ x) (h1 : x ≤ 9999) : NumOk (l.set i x) := by
  intro y hy
  rcases List.mem_or_eq_of_mem_set hy with q | q
  · exact h y q
  · subst q; exact ⟨h0, h1⟩
theorem Args.nil {l n : List Int} (h : Args l n) : Args l [] := ⟨h.len, h.num, by simp⟩
theorem take_set_eq (l : List Int) (i : Nat) (x : Int) (h : i < l.length) : (l.set i x).take (i + 1) = l.take i ++ [x] := by
  rw [List.take_succ_eq_append_getElem (by simpa using h), List.take_set_of_le (Nat.le_refl _)]
  simp
theorem Args.begin {l n : List Int} (h : Args l n) : Args (l.set (min n.length 8) (-1)) (n ++ [-1]) := by
  have hl := h.len
  refine ⟨by simpa using hl, h.num.set _ _ (by omega) (by omega), ?_⟩
  rw [List.length_append]
  simp only [List.length_cons, List.length_nil]
  by_cases c : n.length < 8
  · have e := h.eq
    rw [Nat.min_eq_left (by omega), List.take_of_length_le (l := n) (by omega)] at e
    rw [Nat.min_eq_left (by omega), Nat.min_eq_left (by omega), take_set_eq l _ _ (by omega), e, List.take_of_length_le (by simp; omega)]
  · have e := h.eq
    rw [Nat.min_eq_right (by omega)] at e
    rw [Nat.min_eq_right (by omega), Nat.min_eq_right (by omega), List.take_set_of_le (Nat.le_refl _), e, List.take_append_of_le_length (by omega)]
/-- The last place's value, where there is a number. -/
theorem Args.last {l n : List Int} (h : Args l n) (hn : n ≠ []) (hs : n.length ≤ 8) : l.getD (n.length - 1) 0 = n.getD (n.length - 1) 0 := by
  have hp := List.length_pos_iff.2 hn
  have e := h.eq
  rw [Nat.min_eq_left hs, List.take_of_length_le (l := n) (by omega)] at e
  conv => rhs; rw [← e]
  simp only [List.getD_eq_getElem?_getD, List.getElem?_take]
  rw [if_pos (by simp; have := h.len; omega)]
  congr 2
  rw [List.length_take, h.len]; omega
theorem Args.digit {l n : List Int} (h : Args l n) (hn : n ≠ []) (d : Int) (h0 : 0 ≤ d) (h9 : d ≤ 9) : Args (l.set (min n.length 9 - 1) (digV (l.getD (min n.length 9 - 1) 0) d)) (digN n d) := by
  have hp := List.length_pos_iff.2 hn
  have hl := h.len
  have hx : l.getD (min n.length 9 - 1) 0 ∈ l := getD_mem l _ (by omega)
  have hr := dig_range (l.getD (min n.length 9 - 1) 0) d h0 (h.num _ hx).2
  refine ⟨by simpa using hl, h.num.set _ _ hr.1 hr.2, ?_⟩
  have hlen : (digN n d).length = n.length := by unfold digN; rw [if_neg hn]; simp; omega
  rw [hlen]
  by_cases c : n.length ≤ 8
  · have e := h.eq
    have hla := h.last hn c
    rw [Nat.min_eq_left c, List.take_of_length_le (l := n) (by omega)] at e
    rw [Nat.min_eq_left (by omega : n.length ≤ 9), Nat.min_eq_left c, hla]
    have e2 := take_set_eq l (n.length - 1) (digV (n.getD (n.length - 1) 0) d) (by omega)
    rw [show n.length - 1 + 1 = n.length by omega] at e2
    rw [e2, List.take_of_length_le (l := digN n d) (by rw [hlen]; omega)]
    unfold digN
    rw [if_neg hn]
    congr 1
    have e3 : (l.take n.length).take (n.length - 1) = n.take (n.length - 1) := by rw [e]
    rw [List.take_take, Nat.min_eq_left (by omega)] at e3
    exact e3
  · have e := h.eq
    rw [Nat.min_eq_right (by omega)] at e
    rw [Nat.min_eq_right (by omega : 9 ≤ n.length), Nat.min_eq_right (by omega), List.take_set_of_le (by omega), e]
    unfold digN
    rw [if_neg hn, List.take_append_of_le_length (by simp; omega), List.take_take, Nat.min_eq_left (by omega)]
theorem dig_begin (d : Int) (h0 : 0 ≤ d) (h9 : d ≤ 9) : digN ([] ++ [-1]) d = digN [] d := by
  simp [digN, digV]; omega
theorem Args.told {l n : List Int} (h : Args l n) : l.take (min (min n.length 9) 8) = n.take 8 := by rw [← h.eq]; congr 1; omega
end Go.Proofs.YtkijclgbpbhglaaGreatDoor

namespace Go.Proofs.YtkijclgbpbhglaaGreatDoor
set_option maxRecDepth 100000
set_option linter.unusedVariables false

/-! ### bits -/
/-- The flags with those of g set, or taken away. -/
def withN (f g : Nat) (on : Bool) : Nat := if on then f ||| g else f &&& (255 - g)

theorem withN_lt (f g : Nat) (on : Bool) (hf : f < 256) (hg : g < 256) : withN f g on < 256 := by
  unfold withN
  split
  · exact Nat.or_lt_two_pow (n := 8) hf hg
  · exact Nat.and_lt_two_pow (n := 8) _ (by omega)
/-! ### one parameter -/
def Pn.ok (p : Pn) : Prop := p.f < 256 ∧ p.g < 256 ∧ p.b < 256
/-- The flags, turned. -/
def flagN (f : Nat) (n : Int) : Nat :=
  if n = 0 then 0 else if n = 1 then withN f 1 true else if n = 2 then withN f 2 true else if n = 4 then withN f 4 true else if n = 5 then withN f 8 true else if n = 7 then withN f 16 true
  else if n = 22 then withN f 3 false else if n = 24 then withN f 4 false else if n = 25 then withN f 8 false else if n = 27 then withN f 16 false else f
/-- A color, turned by parameters that begin at 30 or at 40. -/
def dyeN (g : Nat) (n : Int) : Nat :=
  if 30 ≤ n ∧ n ≤ 37 then (n - 29).toNat else if 90 ≤ n ∧ n ≤ 97 then (n - 81).toNat else if n = 39 then 0 else g
def onceN (p : Pn) (n : Int) : Pn := if n = 0 then zeroP else ⟨flagN p.f n, dyeN p.g n, dyeN p.b (n - 10)⟩
def turnN (p : Pn) (l : List Int) : Pn := if l.isEmpty then zeroP else l.foldl onceN p

theorem flagN_lt (f : Nat) (n : Int) (hf : f < 256) : flagN f n < 256 := by
  unfold flagN
  repeat' split
  all_goals first
    | omega
    | (apply withN_lt <;> omega)
theorem dyeN_lt (g : Nat) (n : Int) (hg : g < 256) : dyeN g n < 256 := by
  unfold dyeN
  repeat' split
  all_goals omega
theorem onceN_ok (p : Pn) (n : Int) (h : p.ok) : (onceN p n).ok := by
  unfold onceN
  split
  · exact ⟨by decide, by decide, by decide⟩
  · exact ⟨flagN_lt _ _ h.1, dyeN_lt _ _ h.2.1, dyeN_lt _ _ h.2.2⟩
theorem foldN_ok (l : List Int) : ∀ p : Pn, p.ok → (l.foldl onceN p).ok := by
  induction l with
  | nil => exact fun p h => h
  | cons n l ih => exact fun p h => ih _ (onceN_ok p n h)
/-! a right pen stays right -/
theorem withN_le (f g : Nat) (on : Bool) (hf : f ≤ 31) (hg : g ≤ 31) : withN f g on ≤ 31 := by
  unfold withN
  split
  · have := Nat.or_lt_two_pow (n := 5) (show f < 2 ^ 5 by omega) (show g < 2 ^ 5 by omega)
    omega
  · have : f &&& (255 - g) ≤ f := Nat.and_le_left
    omega
theorem onceN_right (p : Pn) (n : Int) (h : rightN p = true) : rightN (onceN p n) = true := by
  unfold rightN at h ⊢
  simp only [Bool.and_eq_true, decide_eq_true_eq] at h ⊢
  obtain ⟨h1, h2, h3⟩ := h
  unfold onceN
  split
  · exact ⟨by decide, by decide, by decide⟩
  · refine ⟨?_, ?_, ?_⟩
    · show flagN p.f n ≤ 31
      unfold flagN
      repeat' split
      all_goals first
        | omega
        | (apply withN_le <;> omega)
    · show dyeN p.g n ≤ 16
      unfold dyeN
      repeat' split
      all_goals omega
    · show dyeN p.b (n - 10) ≤ 16
      unfold dyeN
      repeat' split
      all_goals omega
theorem foldN_right (l : List Int) : ∀ p : Pn, rightN p = true → rightN (l.foldl onceN p) = true := by
  induction l with
  | nil => exact fun p h => h
  | cons n l ih => exact fun p h => ih _ (onceN_right p n h)
theorem turnN_right (p : Pn) (l : List Int) (h : rightN p = true) : rightN (turnN p l) = true := by
  unfold turnN
  split
  · decide
  · exact foldN_right l p h
/-! ### the document's way: flag by flag, color by color -/
/-! ### numbers -/
end Go.Proofs.YtkijclgbpbhglaaGreatDoor

namespace Go.Proofs.YtkijclgbpbhglaaGreatDoor
set_option maxRecDepth 100000
set_option linter.unusedVariables false

/-- An emulator. -/
structure Em where
  g : Gd
  p : Ps
  pen : Pn
  wrap : Bool
def newE (R C : Nat) : Em := ⟨newG R C, p0, zeroP, false⟩
/-- The blank pen. -/
def blankP (p : Pn) : Pn := ⟨0, 0, p.b⟩
/-- A row lower, or all rows go up. -/
def feedG (g : Gd) (C : Nat) (bp : Pn) : Gd := if g.row + 1 = g.ls.length then scrollG g C 1 bp else { g with row := g.row + 1 }
/-- The grid in which a scalar of so many columns is put. -/
def readyG (e : Em) (C : Nat) (n : Int) : Gd := if e.wrap = true ∨ (C : Int) - (e.g.col : Int) < n then feedG { e.g with col := 0 } C (blankP e.pen) else e.g
/-- A scalar. -/
def typedE (e : Em) (C : Nat) (r : Int) : Em :=
  if wOf r = 0 then { e with g := markG e.g e.g.row (if e.wrap = true then (e.g.col : Int) else (e.g.col : Int) - 1) r }
  else if wOf r < 1 ∨ (C : Int) < wOf r then e
  else if (C : Int) ≤ ((readyG e C (wOf r)).col : Int) + wOf r then { e with g := { putG (readyG e C (wOf r)) (readyG e C (wOf r)).row (readyG e C (wOf r)).col (ofC r e.pen).1 with col := C - 1 }, wrap := true }
  else { e with g := { putG (readyG e C (wOf r)) (readyG e C (wOf r)).row (readyG e C (wOf r)).col (ofC r e.pen).1 with col := (readyG e C (wOf r)).col + (wOf r).toNat }, wrap := false }
def moveE (e : Em) (C : Nat) (r c : Int) : Em := { e with g := moveG e.g r c C, wrap := false }
/-- The number at a place, or none. -/
def nAt (ns : List Int) (i : Nat) (none_ : Int) : Int := if ns.length ≤ i ∨ ns.getD i 0 = -1 then none_ else ns.getD i 0
def oneN (x : Int) : Int := min (max x 1) 1000
/-- Is a row erased whole by J? -/
def allRow (k : Int) (row r : Nat) : Bool := decide (k = 2) || (decide (k = 0) && decide (row < r)) || (decide (k = 1) && decide (r < row))
def eraseTo (g : Gd) (C : Nat) (k : Int) (bp : Pn) : Nat → Gd
  | 0 => g
  | r + 1 => if allRow k g.row r = true then eraseG (eraseTo g C k bp r) (r : Int) 0 (C : Int) bp else eraseTo g C k bp r
def eraseOwn (g : Gd) (C : Nat) (k : Int) (bp : Pn) : Gd :=
  if k = 0 then eraseG g g.row g.col (C : Int) bp else if k = 1 then eraseG g g.row 0 ((g.col : Int) + 1) bp else if k = 2 then eraseG g g.row 0 (C : Int) bp else g
/-- An event. -/
def doE (e : Em) (C : Nat) (x : Ev) : Em :=
  if x.k = 1 then typedE e C x.r
  else if x.k = 2 then
    if x.r = 13 then moveE e C e.g.row 0
    else if x.r = 10 then { e with g := feedG e.g C (blankP e.pen), wrap := false }
    else if x.r = 8 then moveE e C e.g.row ((e.g.col : Int) - 1)
    else e
  else if x.k = 3 then
    if x.r = 65 then moveE e C ((e.g.row : Int) - oneN (nAt x.n 0 1)) e.g.col
    else if x.r = 66 then moveE e C ((e.g.row : Int) + oneN (nAt x.n 0 1)) e.g.col
    else if x.r = 67 then moveE e C e.g.row ((e.g.col : Int) + oneN (nAt x.n 0 1))
    else if x.r = 68 then moveE e C e.g.row ((e.g.col : Int) - oneN (nAt x.n 0 1))
    else if x.r = 72 then moveE e C (oneN (nAt x.n 0 1) - 1) (oneN (nAt x.n 1 1) - 1)
    else if x.r = 74 then { e with g := eraseOwn (eraseTo e.g C (nAt x.n 0 0) (blankP e.pen) e.g.ls.length) C (nAt x.n 0 0) (blankP e.pen) }
    else if x.r = 75 then { e with g := eraseOwn e.g C (nAt x.n 0 0) (blankP e.pen) }
    else if x.r = 109 then { e with pen := turnN e.pen (x.n.map fun v => if v = -1 then 0 else v) }
    else e
  else e
def setP (e : Em) (q : Ps) : Em := ⟨e.g, q, e.pen, e.wrap⟩
def doAll (e : Em) (C : Nat) (l : List Ev) : Em := l.foldl (fun e x => doE e C x) e
/-- A host's bytes. -/
def feedE (e : Em) (C : Nat) (bs : List Int) : Em := setP (doAll e C (feedP e.p bs).2) (feedP e.p bs).1
/-! ### the parser is no part of what events do -/
theorem typed_p (e : Em) (C : Nat) (r : Int) (q : Ps) : typedE (setP e q) C r = setP (typedE e C r) q := by
  unfold typedE
  simp only [apply_ite (fun e => setP e q)]
  rfl
theorem do_p (e : Em) (C : Nat) (x : Ev) (q : Ps) : doE (setP e q) C x = setP (doE e C x) q := by
  unfold doE
  simp only [apply_ite (fun e => setP e q), typed_p]
  rfl
theorem doAll_p (l : List Ev) : ∀ (e : Em) (C : Nat) (q : Ps), doAll (setP e q) C l = setP (doAll e C l) q := by
  induction l with
  | nil => intro e C q; rfl
  | cons x l ih => intro e C q; unfold doAll at ih ⊢; simp only [List.foldl_cons]; rw [do_p]; exact ih _ _ _
theorem doAll_append (e : Em) (C : Nat) (a b : List Ev) : doAll e C (a ++ b) = doAll (doAll e C a) C b := by unfold doAll; rw [List.foldl_append]
theorem doAll_nil (e : Em) (C : Nat) : doAll e C [] = e := rfl
theorem doAll_cons (e : Em) (C : Nat) (x : Ev) (l : List Ev) : doAll e C (x :: l) = doAll (doE e C x) C l := rfl
/-- However bytes are cut. -/
theorem feedE_append (e : Em) (C : Nat) (a b : List Int) : feedE e C (a ++ b) = feedE (feedE e C a) C b := by
  have h := feed_append a b e.p
  unfold feedE
  rw [h]
  show setP (doAll e C ((feedP e.p a).2 ++ (feedP (feedP e.p a).1 b).2)) _ = setP (doAll (setP (doAll e C (feedP e.p a).2) (feedP e.p a).1) C (feedP (feedP e.p a).1 b).2) _
  rw [doAll_append, doAll_p]
  rfl
/-! ### what an emulator always is -/
structure EOk (e : Em) (R C : Nat) : Prop where
  g : GOk e.g R C
  p : PsOk e.p
  pen : rightN e.pen = true
theorem EvB.r32 {e : Ev} (h : EvB e) : R32 e.r := ⟨h.1, h.2.1⟩
theorem GOk.cursor {g : Gd} {R C : Nat} (h : GOk g R C) (r c : Nat) (hr : r < R) (hc : c < C) : GOk { g with row := r, col := c } R C := ⟨h.r1, h.r2, h.c1, h.c2, h.len, h.each, hr, hc⟩
theorem feedG_ok {g : Gd} {R C : Nat} (h : GOk g R C) (bp : Pn) : GOk (feedG g C bp) R C := by
  unfold feedG
  split
  · exact h.scroll 1 bp
  · rename_i q
    have h1 := h.len
    have h2 := h.row
    exact h.cursor (g.row + 1) g.col (by omega) h.col
theorem readyG_ok {e : Em} {R C : Nat} (h : EOk e R C) (n : Int) : GOk (readyG e C n) R C := by
  unfold readyG
  split
  · exact feedG_ok (h.g.cursor e.g.row 0 h.g.row (by have := h.g.c1; omega)) _
  · exact h.g
theorem new_ok (R C : Nat) (r1 : 1 ≤ R) (r2 : R ≤ 512) (c1 : 1 ≤ C) (c2 : C ≤ 512) : EOk (newE R C) R C := ⟨GOk.new r1 r2 c1 c2, ok0, by show rightN zeroP = true; decide⟩
end Go.Proofs.YtkijclgbpbhglaaGreatDoor
