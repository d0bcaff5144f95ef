/-
  Plain mathematics of layer 2 (utf): a scalar's bytes, the first scalar of bytes, all of them, what is left as a beginning, which bytes are right. No Go text, no program.
-/
namespace Go.Proofs.Ytfngnmopdfojmaa
set_option maxRecDepth 100000
set_option linter.unusedVariables false

/-- Is a number a scalar? -/
def isSc (r : Int) : Bool := decide (0 ≤ r ∧ r ≤ 1114111 ∧ (r < 55296 ∨ 57343 < r))
theorem isSc_iff (r : Int) : isSc r = true ↔ 0 ≤ r ∧ r ≤ 1114111 ∧ (r < 55296 ∨ 57343 < r) := by simp [isSc]
/-- What stands for a number: itself, or the broken one. -/
def fix (r : Int) : Int := if isSc r = true then r else 65533
theorem fix_sc (r : Int) : isSc (fix r) = true := by unfold fix; split; assumption; decide
theorem fix_of (r : Int) (h : isSc r = true) : fix r = r := by unfold fix; rw [if_pos h]

/-- A scalar's bytes. -/
def encS (r : Int) : List Int :=
  if r < 128 then [r] else if r < 2048 then [192 + r / 64, 128 + r % 64]
  else if r < 65536 then [224 + r / 4096, 128 + r / 64 % 64, 128 + r % 64]
  else [240 + r / 262144, 128 + r / 4096 % 64, 128 + r / 64 % 64, 128 + r % 64]
theorem encS1 {r : Int} (h : r < 128) : encS r = [r] := by unfold encS; rw [if_pos h]
theorem encS2 {r : Int} (h : ¬ r < 128) (h2 : r < 2048) : encS r = [192 + r / 64, 128 + r % 64] := by unfold encS; rw [if_neg h, if_pos h2]
theorem encS3 {r : Int} (h : ¬ r < 2048) (h2 : r < 65536) : encS r = [224 + r / 4096, 128 + r / 64 % 64, 128 + r % 64] := by unfold encS; rw [if_neg (by omega), if_neg h, if_pos h2]
theorem encS4 {r : Int} (h : ¬ r < 65536) : encS r = [240 + r / 262144, 128 + r / 4096 % 64, 128 + r / 64 % 64, 128 + r % 64] := by unfold encS; rw [if_neg (by omega), if_neg (by omega), if_neg h]
def encA : List Int → List Int
  | [] => []
  | r :: l => encS (fix r) ++ encA l
theorem encA_append (a b : List Int) : encA (a ++ b) = encA a ++ encA b := by induction a with
  | nil => rfl
  | cons r l ih => simp [encA, ih]
theorem encA_one (r : Int) : encA [r] = encS (fix r) := by simp [encA]
theorem encS_len (r : Int) : 1 ≤ (encS r).length ∧ (encS r).length ≤ 4 := by
  unfold encS; split; simp; split; simp; split <;> simp
theorem encA_len (l : List Int) : (encA l).length ≤ 4 * l.length := by induction l with
  | nil => simp [encA]
  | cons r l ih => have := encS_len (fix r); simp [encA]; omega

/-- How many bytes a scalar has that begins with this one. -/
def sz (c : Int) : Nat := if c ≤ 127 then 1 else if c < 194 then 0 else if c < 224 then 2 else if c < 240 then 3 else if c ≤ 244 then 4 else 0
def lo2 (c : Int) : Int := if c = 224 then 160 else if c = 240 then 144 else 128
def hi2 (c : Int) : Int := if c = 237 then 159 else if c = 244 then 143 else 191
theorem sz_le (c : Int) : sz c ≤ 4 := by unfold sz; split; omega; split; omega; split; omega; split; omega; split <;> omega
theorem sz1 {c : Int} (h : c ≤ 127) : sz c = 1 := by unfold sz; rw [if_pos h]
theorem sz0a {c : Int} (h : ¬ c ≤ 127) (h2 : c < 194) : sz c = 0 := by unfold sz; rw [if_neg h, if_pos h2]
theorem sz2 {c : Int} (h : ¬ c < 194) (h2 : c < 224) : sz c = 2 := by unfold sz; rw [if_neg (by omega), if_neg h, if_pos h2]
theorem sz3 {c : Int} (h : ¬ c < 224) (h2 : c < 240) : sz c = 3 := by unfold sz; rw [if_neg (by omega), if_neg (by omega), if_neg h, if_pos h2]
theorem sz4 {c : Int} (h : ¬ c < 240) (h2 : c ≤ 244) : sz c = 4 := by unfold sz; rw [if_neg (by omega), if_neg (by omega), if_neg (by omega), if_neg h, if_pos h2]
theorem sz0b {c : Int} (h : ¬ c ≤ 244) : sz c = 0 := by unfold sz; rw [if_neg (by omega), if_neg (by omega), if_neg (by omega), if_neg (by omega), if_neg h]
theorem sz_inv (c : Int) : (c ≤ 127 ∧ sz c = 1) ∨ (127 < c ∧ c < 194 ∧ sz c = 0) ∨ (194 ≤ c ∧ c < 224 ∧ sz c = 2) ∨ (224 ≤ c ∧ c < 240 ∧ sz c = 3) ∨ (240 ≤ c ∧ c ≤ 244 ∧ sz c = 4) ∨ (244 < c ∧ sz c = 0) := by
  by_cases h1 : c ≤ 127
  · exact .inl ⟨h1, sz1 h1⟩
  by_cases h2 : c < 194
  · exact .inr (.inl ⟨by omega, h2, sz0a h1 h2⟩)
  by_cases h3 : c < 224
  · exact .inr (.inr (.inl ⟨by omega, h3, sz2 h2 h3⟩))
  by_cases h4 : c < 240
  · exact .inr (.inr (.inr (.inl ⟨by omega, h4, sz3 h3 h4⟩)))
  by_cases h5 : c ≤ 244
  · exact .inr (.inr (.inr (.inr (.inl ⟨by omega, h5, sz4 h4 h5⟩))))
  · exact .inr (.inr (.inr (.inr (.inr ⟨by omega, sz0b h5⟩))))
theorem lo2_inv (c : Int) : (c = 224 ∧ lo2 c = 160) ∨ (c = 240 ∧ lo2 c = 144) ∨ (c ≠ 224 ∧ c ≠ 240 ∧ lo2 c = 128) := by
  unfold lo2; split; omega; split <;> omega
theorem hi2_inv (c : Int) : (c = 237 ∧ hi2 c = 159) ∨ (c = 244 ∧ hi2 c = 143) ∨ (c ≠ 237 ∧ c ≠ 244 ∧ hi2 c = 191) := by
  unfold hi2; split; omega; split <;> omega

/-- How many of bytes, at most k, go on. -/
def run (lo hi : Int) : Nat → List Int → Nat
  | 0, _ => 0
  | _, [] => 0
  | k + 1, c :: r => if lo ≤ c ∧ c ≤ hi then 1 + run 128 191 k r else 0
/-- How many of bytes some scalar begins with. -/
def fit : List Int → Nat
  | [] => 0
  | c :: r => if sz c = 0 then 0 else 1 + run (lo2 c) (hi2 c) (sz c - 1) r

theorem run_nil (lo hi : Int) (k : Nat) : run lo hi k [] = 0 := by cases k <;> rfl
theorem run_zero (lo hi : Int) (r : List Int) : run lo hi 0 r = 0 := rfl
theorem run_yes {lo hi : Int} {k : Nat} {c : Int} {r : List Int} (h : lo ≤ c ∧ c ≤ hi) : run lo hi (k + 1) (c :: r) = 1 + run 128 191 k r := by rw [run, if_pos h]
theorem run_no {lo hi : Int} {k : Nat} {c : Int} {r : List Int} (h : ¬ (lo ≤ c ∧ c ≤ hi)) : run lo hi (k + 1) (c :: r) = 0 := by rw [run, if_neg h]
theorem run_le (p : List Int) : ∀ lo hi k, run lo hi k p ≤ p.length ∧ run lo hi k p ≤ k := by
  induction p with
  | nil => intro lo hi k; rw [run_nil]; omega
  | cons c r ih =>
    intro lo hi k
    cases k with
    | zero => rw [run_zero]; omega
    | succ k =>
      by_cases h : lo ≤ c ∧ c ≤ hi
      · rw [run_yes h]; have := ih 128 191 k; simp; omega
      · rw [run_no h]; simp
theorem run_append (p t : List Int) : ∀ lo hi k, (run lo hi k p < p.length → run lo hi k (p ++ t) = run lo hi k p) ∧ run lo hi k p ≤ run lo hi k (p ++ t) := by
  induction p with
  | nil => intro lo hi k; rw [run_nil]; simp
  | cons c r ih =>
    intro lo hi k
    cases k with
    | zero => rw [run_zero]; simp [run_zero]
    | succ k =>
      rw [List.cons_append]
      by_cases h : lo ≤ c ∧ c ≤ hi
      · rw [run_yes h, run_yes h]
        have := ih 128 191 k
        refine ⟨fun hl => ?_, by omega⟩
        rw [this.1 (by simp at hl; omega)]
      · rw [run_no h, run_no h]; simp
theorem fit_zero {c : Int} {r : List Int} (h : sz c = 0) : fit (c :: r) = 0 := by rw [fit, if_pos h]
theorem fit_pos {c : Int} {r : List Int} (h : ¬ sz c = 0) : fit (c :: r) = 1 + run (lo2 c) (hi2 c) (sz c - 1) r := by rw [fit, if_neg h]
theorem fit_le (p : List Int) : fit p ≤ p.length := by
  cases p with
  | nil => simp [fit]
  | cons c r =>
    by_cases h : sz c = 0
    · rw [fit_zero h]; omega
    · rw [fit_pos h]; have := run_le r (lo2 c) (hi2 c) (sz c - 1); simp; omega
theorem fit_sz (c : Int) (r : List Int) : fit (c :: r) ≤ sz c := by
  by_cases h : sz c = 0
  · rw [fit_zero h]; omega
  · rw [fit_pos h]; have := run_le r (lo2 c) (hi2 c) (sz c - 1); omega
theorem fit_append (p t : List Int) : (fit p < p.length → fit (p ++ t) = fit p) ∧ fit p ≤ fit (p ++ t) := by
  cases p with
  | nil => simp [fit]
  | cons c r =>
    rw [List.cons_append]
    by_cases h : sz c = 0
    · rw [fit_zero h, fit_zero h]; simp
    · rw [fit_pos h, fit_pos h]
      have := run_append r t (lo2 c) (hi2 c) (sz c - 1)
      refine ⟨fun hl => ?_, by omega⟩
      rw [this.1 (by simp at hl; omega)]
theorem fit_take (b : List Int) (k : Nat) (hk : k ≤ b.length) : (fit (b.take k) = k ↔ k ≤ fit b) := by
  have h := fit_append (b.take k) (b.drop k)
  rw [List.take_append_drop] at h
  have hl := fit_le (b.take k)
  have hx : (b.take k).length = k := by rw [List.length_take]; omega
  rw [hx] at h hl
  constructor
  · intro e; omega
  · intro e
    rcases Nat.lt_or_ge (fit (b.take k)) k with h1 | h1
    · have := h.1 h1; omega
    · omega

/-- The number of just these bytes. -/
def joinV : List Int → Int
  | [a] => a
  | [a, b] => (a - 192) * 64 + b - 128
  | [a, b, c] => (a - 224) * 4096 + (b - 128) * 64 + c - 128
  | [a, b, c, d] => (a - 240) * 262144 + (b - 128) * 4096 + (c - 128) * 64 + d - 128
  | _ => 0

/-- What a whole scalar's bytes look like. -/
inductive Full : List Int → Prop
  | one {a} (h0 : 0 ≤ a) (h : a ≤ 127) : Full [a]
  | two {a b} (h : 194 ≤ a ∧ a < 224) (h1 : 128 ≤ b ∧ b ≤ 191) : Full [a, b]
  | three {a b c} (h : 224 ≤ a ∧ a < 240) (h1 : lo2 a ≤ b ∧ b ≤ hi2 a) (h2 : 128 ≤ c ∧ c ≤ 191) : Full [a, b, c]
  | four {a b c d} (h : 240 ≤ a ∧ a ≤ 244) (h1 : lo2 a ≤ b ∧ b ≤ hi2 a) (h2 : 128 ≤ c ∧ c ≤ 191) (h3 : 128 ≤ d ∧ d ≤ 191) : Full [a, b, c, d]

theorem full_enc (r : Int) (h : isSc r = true) : Full (encS r) := by
  rw [isSc_iff] at h
  by_cases h1 : r < 128
  · rw [encS1 h1]; exact .one (by omega) (by omega)
  by_cases h2 : r < 2048
  · rw [encS2 h1 h2]; exact .two (by omega) (by omega)
  by_cases h3 : r < 65536
  · rw [encS3 h2 h3]
    have := lo2_inv (224 + r / 4096)
    have := hi2_inv (224 + r / 4096)
    exact .three (by omega) (by omega) (by omega)
  · rw [encS4 h3]
    have := lo2_inv (240 + r / 262144)
    have := hi2_inv (240 + r / 262144)
    exact .four (by omega) (by omega) (by omega) (by omega)
theorem join_enc (r : Int) (h : isSc r = true) : joinV (encS r) = r := by
  rw [isSc_iff] at h
  by_cases h1 : r < 128
  · rw [encS1 h1]; rfl
  by_cases h2 : r < 2048
  · rw [encS2 h1 h2]; simp only [joinV]; omega
  by_cases h3 : r < 65536
  · rw [encS3 h2 h3]; simp only [joinV]; omega
  · rw [encS4 h3]; simp only [joinV]; omega
theorem full_join {p : List Int} (h : Full p) : isSc (joinV p) = true ∧ encS (joinV p) = p := by
  rw [isSc_iff]
  cases h with
  | one h0 h => refine ⟨by simp only [joinV]; omega, ?_⟩; simp only [joinV]; rw [encS1 (by omega)]
  | two h h1 =>
    refine ⟨by simp only [joinV]; omega, ?_⟩
    simp only [joinV]; rw [encS2 (by omega) (by omega)]; congr 1
    · omega
    · congr 1; omega
  | @three a b c h h1 h2 =>
    have := lo2_inv a
    have := hi2_inv a
    refine ⟨by simp only [joinV]; omega, ?_⟩
    simp only [joinV]; rw [encS3 (by omega) (by omega)]; congr 1
    · omega
    · congr 1
      · omega
      · congr 1; omega
  | @four a b c d h h1 h2 h3 =>
    have := lo2_inv a
    have := hi2_inv a
    refine ⟨by simp only [joinV]; omega, ?_⟩
    simp only [joinV]; rw [encS4 (by omega)]; congr 1
    · omega
    · congr 1
      · omega
      · congr 1
        · omega
        · congr 1; omega
theorem full_fit {p : List Int} (h : Full p) : ∃ c r, p = c :: r ∧ sz c = p.length ∧ fit p = p.length := by
  cases h with
  | one h0 h => exact ⟨_, _, rfl, sz1 h, by rw [fit, sz1 h]; rfl⟩
  | @two a b h h1 =>
    have e := sz2 (c := a) (by omega) (by omega)
    have := lo2_inv a
    have := hi2_inv a
    refine ⟨_, _, rfl, e, ?_⟩
    rw [fit, e]; simp only [Nat.reduceSub, Nat.reduceEqDiff, if_false]
    rw [run_yes (by omega), run_zero]; rfl
  | @three a b c h h1 h2 =>
    have e := sz3 (c := a) (by omega) (by omega)
    refine ⟨_, _, rfl, e, ?_⟩
    rw [fit, e]; simp only [Nat.reduceSub, Nat.reduceEqDiff, if_false]
    rw [run_yes h1, run_yes h2, run_zero]; rfl
  | @four a b c d h h1 h2 h3 =>
    have e := sz4 (c := a) (by omega) (by omega)
    refine ⟨_, _, rfl, e, ?_⟩
    rw [fit, e]; simp only [Nat.reduceSub, Nat.reduceEqDiff, if_false]
    rw [run_yes h1, run_yes h2, run_yes h3, run_zero]; rfl

/-- What fits as a whole is what a whole scalar begins with. -/
theorem run_ext (p : List Int) : ∀ lo hi k, lo ≤ hi → run lo hi k p = p.length → p.length < k → ∃ c, run lo hi k (p ++ [c]) = p.length + 1 := by
  induction p with
  | nil =>
    intro lo hi k hlh _ hk
    cases k with
    | zero => simp at hk
    | succ k => exact ⟨lo, by rw [List.nil_append, run_yes ⟨by omega, hlh⟩, run_nil]; rfl⟩
  | cons c r ih =>
    intro lo hi k hlh he hk
    cases k with
    | zero => simp at hk
    | succ k =>
      by_cases h : lo ≤ c ∧ c ≤ hi
      · rw [run_yes h] at he
        obtain ⟨d, hd⟩ := ih 128 191 k (by omega) (by simp at he; omega) (by simp at hk; omega)
        exact ⟨d, by rw [List.cons_append, run_yes h, hd]; simp; omega⟩
      · rw [run_no h] at he; simp at he
theorem fit_ext (c : Int) (r : List Int) (h : fit (c :: r) = (c :: r).length) (hl : (c :: r).length < sz c) : ∃ d, fit (c :: (r ++ [d])) = (c :: r).length + 1 := by
  have h0 : ¬ sz c = 0 := by simp at hl; omega
  rw [fit, if_neg h0] at h
  have hlh : lo2 c ≤ hi2 c := by have := lo2_inv c; have := hi2_inv c; omega
  obtain ⟨d, hd⟩ := run_ext r (lo2 c) (hi2 c) (sz c - 1) hlh (by simp at h; omega) (by simp at hl; omega)
  exact ⟨d, by rw [fit, if_neg h0, hd]; simp; omega⟩
theorem fit_whole (n : Nat) : ∀ c r, n = sz c - (c :: r).length → fit (c :: r) = (c :: r).length → ∃ t, fit (c :: (r ++ t)) = sz c ∧ (c :: (r ++ t)).length = sz c := by
  induction n with
  | zero =>
    intro c r hn h
    have h2 := fit_sz c r
    exact ⟨[], by simp only [List.append_nil]; omega, by simp only [List.append_nil]; omega⟩
  | succ n ih =>
    intro c r hn h
    obtain ⟨d, hd⟩ := fit_ext c r h (by omega)
    obtain ⟨t, h1, h2⟩ := ih c (r ++ [d]) (by simp at hn ⊢; omega) (by rw [hd]; simp)
    exact ⟨[d] ++ t, by rw [← List.append_assoc]; exact h1, by rw [← List.append_assoc]; exact h2⟩
theorem run_inv {lo hi : Int} {k : Nat} {c : Int} {r : List Int} {n : Nat} (h : run lo hi k (c :: r) = n + 1) : (lo ≤ c ∧ c ≤ hi) ∧ run 128 191 (k - 1) r = n := by
  cases k with
  | zero => rw [run_zero] at h; omega
  | succ k =>
    by_cases hc : lo ≤ c ∧ c ≤ hi
    · rw [run_yes hc] at h; exact ⟨hc, by simp; omega⟩
    · rw [run_no hc] at h; omega
theorem fit_full {c : Int} {r : List Int} (h0 : 0 ≤ c) (h : fit (c :: r) = sz c) (hl : (c :: r).length = sz c) : Full (c :: r) := by
  rcases sz_inv c with ⟨h1, e⟩ | ⟨_, _, e⟩ | ⟨h1, h2, e⟩ | ⟨h1, h2, e⟩ | ⟨h1, h2, e⟩ | ⟨_, e⟩
  · rw [e] at hl
    match r, hl with
    | [], _ => exact .one h0 h1
  · rw [e] at hl; simp at hl
  · rw [fit, e] at h
    rw [e] at hl
    match r, hl, h with
    | [b], _, h =>
      have := lo2_inv c
      have := hi2_inv c
      simp only [Nat.reduceSub, Nat.reduceEqDiff, if_false] at h
      obtain ⟨q, _⟩ := run_inv (n := 0) (by omega : run (lo2 c) (hi2 c) 1 [b] = 0 + 1)
      exact .two ⟨h1, h2⟩ (by omega)
  · rw [fit, e] at h
    rw [e] at hl
    match r, hl, h with
    | [b, d], _, h =>
      simp only [Nat.reduceSub, Nat.reduceEqDiff, if_false] at h
      obtain ⟨q, h⟩ := run_inv (n := 1) (by omega : run (lo2 c) (hi2 c) 2 [b, d] = 1 + 1)
      obtain ⟨q', _⟩ := run_inv (n := 0) h
      exact .three ⟨h1, h2⟩ q q'
  · rw [fit, e] at h
    rw [e] at hl
    match r, hl, h with
    | [b, d, f], _, h =>
      simp only [Nat.reduceSub, Nat.reduceEqDiff, if_false] at h
      obtain ⟨q, h⟩ := run_inv (n := 2) (by omega : run (lo2 c) (hi2 c) 3 [b, d, f] = 2 + 1)
      obtain ⟨q', h⟩ := run_inv (n := 1) h
      obtain ⟨q'', _⟩ := run_inv (n := 0) h
      exact .four ⟨h1, h2⟩ q q' q''
  · rw [e] at hl; simp at hl

/-- Bytes that some scalar begins with fit, and the other way round. -/
theorem begins_iff (c : Int) (r : List Int) (h0 : 0 ≤ c) : (∃ m, isSc m = true ∧ (c :: r) <+: encS m) ↔ fit (c :: r) = (c :: r).length := by
  constructor
  · rintro ⟨m, hm, t, ht⟩
    obtain ⟨_, _, _, _, hf⟩ := full_fit (full_enc m hm)
    rw [← ht] at hf
    have h1 := fit_append (c :: r) t
    have h2 := fit_le (c :: r)
    rcases Nat.lt_or_ge (fit (c :: r)) (c :: r).length with h | h
    · have := h1.1 h; rw [List.length_append] at hf; omega
    · omega
  · intro h
    obtain ⟨t, h1, h2⟩ := fit_whole _ c r rfl h
    obtain ⟨ha, hb⟩ := full_join (fit_full h0 h1 h2)
    exact ⟨_, ha, t, by rw [hb]; rfl⟩
end Go.Proofs.Ytfngnmopdfojmaa
