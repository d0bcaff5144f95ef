/-
  Plain mathematics of layer 2 (utf), on: the order of bytes, the first scalar of bytes, all of them, what is left, which bytes are right.
-/
import Derived.Test.YtfngnmopdfojmaaUMath
import Derived.Test.YtfngnmopdfojmaaWords
namespace Go.Proofs.Ytfngnmopdfojmaa
set_option maxRecDepth 100000
set_option linter.unusedVariables false

/-- Do bytes come ahead of others? -/
def lexB : List Int → List Int → Bool
  | [], [] => false
  | [], _ :: _ => true
  | _ :: _, [] => false
  | a :: s, b :: t => if a = b then lexB s t else decide (a < b)
theorem lexB_eq (a : Int) (s t : List Int) : lexB (a :: s) (a :: t) = lexB s t := by simp [lexB]
theorem lexB_ne {a b : Int} (h : a ≠ b) (s t : List Int) : lexB (a :: s) (b :: t) = decide (a < b) := by simp [lexB, h]
theorem lexB_trans (x : List Int) : ∀ y z, lexB x y = true → lexB y z = true → lexB x z = true := by
  induction x with
  | nil =>
    intro y z h1 h2
    cases y with
    | nil => simp [lexB] at h1
    | cons b y => cases z with
      | nil => simp [lexB] at h2
      | cons c z => simp [lexB]
  | cons a x ih =>
    intro y z h1 h2
    cases y with
    | nil => simp [lexB] at h1
    | cons b y => cases z with
      | nil => simp [lexB] at h2
      | cons c z =>
        by_cases e1 : a = b
        · subst e1
          by_cases e2 : a = c
          · subst e2; rw [lexB_eq] at *; exact ih y z h1 h2
          · rw [lexB_ne e2] at *; exact h2
        · rw [lexB_ne e1] at h1
          by_cases e2 : b = c
          · subst e2; rw [lexB_ne e1]; exact h1
          · rw [lexB_ne e2] at h2
            simp at h1 h2
            rw [lexB_ne (by omega)]; simp; omega
theorem lexB_prefix (p : List Int) : ∀ y, p <+: y → lexB y p = false := by
  induction p with
  | nil => intro y _; cases y <;> rfl
  | cons b p ih =>
    intro y h
    obtain ⟨t, rfl⟩ := h
    rw [List.cons_append, lexB_eq]
    exact ih _ ⟨t, rfl⟩
theorem lexB_between (p : List Int) : ∀ x y, lexB x p = false → lexB x y = true → p <+: y → p <+: x := by
  induction p with
  | nil => intro x y _ _ _; exact List.nil_prefix
  | cons b p ih =>
    intro x y h1 h2 h3
    obtain ⟨t, rfl⟩ := h3
    cases x with
    | nil => simp [lexB] at h1
    | cons a x =>
      by_cases e : a = b
      · subst e
        rw [lexB_eq] at h1
        rw [List.cons_append, lexB_eq] at h2
        obtain ⟨u, hu⟩ := ih x (p ++ t) h1 h2 ⟨t, rfl⟩
        exact ⟨u, by rw [List.cons_append, hu]⟩
      · rw [lexB_ne e] at h1
        rw [List.cons_append, lexB_ne e] at h2
        simp at h1 h2; omega
theorem lexB_lt {a b : Int} (h : a < b) (s t : List Int) : lexB (a :: s) (b :: t) = true := by rw [lexB_ne (by omega)]; simp [h]
theorem lexB_enc (m k : Int) (h0 : 0 ≤ m) (h : m < k) (hk : k ≤ 1114111) : lexB (encS m) (encS k) = true := by
  by_cases k1 : k < 128
  · rw [encS1 k1, encS1 (by omega)]; exact lexB_lt h _ _
  by_cases k2 : k < 2048
  · rw [encS2 k1 k2]
    by_cases m1 : m < 128
    · rw [encS1 m1]; exact lexB_lt (by omega) _ _
    · rw [encS2 m1 (by omega)]
      by_cases e : 192 + m / 64 = 192 + k / 64
      · rw [e, lexB_eq]; exact lexB_lt (by omega) _ _
      · exact lexB_lt (by omega) _ _
  by_cases k3 : k < 65536
  · rw [encS3 k2 k3]
    by_cases m1 : m < 128
    · rw [encS1 m1]; exact lexB_lt (by omega) _ _
    by_cases m2 : m < 2048
    · rw [encS2 m1 m2]; exact lexB_lt (by omega) _ _
    · rw [encS3 m2 (by omega)]
      by_cases e : 224 + m / 4096 = 224 + k / 4096
      · rw [e, lexB_eq]
        by_cases e : 128 + m / 64 % 64 = 128 + k / 64 % 64
        · rw [e, lexB_eq]; exact lexB_lt (by omega) _ _
        · exact lexB_lt (by omega) _ _
      · exact lexB_lt (by omega) _ _
  · rw [encS4 k3]
    by_cases m1 : m < 128
    · rw [encS1 m1]; exact lexB_lt (by omega) _ _
    by_cases m2 : m < 2048
    · rw [encS2 m1 m2]; exact lexB_lt (by omega) _ _
    by_cases m3 : m < 65536
    · rw [encS3 m2 m3]; exact lexB_lt (by omega) _ _
    · rw [encS4 m3]
      by_cases e : 240 + m / 262144 = 240 + k / 262144
      · rw [e, lexB_eq]
        by_cases e : 128 + m / 4096 % 64 = 128 + k / 4096 % 64
        · rw [e, lexB_eq]
          by_cases e : 128 + m / 64 % 64 = 128 + k / 64 % 64
          · rw [e, lexB_eq]; exact lexB_lt (by omega) _ _
          · exact lexB_lt (by omega) _ _
        · exact lexB_lt (by omega) _ _
      · exact lexB_lt (by omega) _ _

/-- The search's end: all below L come ahead; H is the last one, or doesn't. -/
theorem search_end (p : List Int) (lo hi L : Int) (h0 : 0 ≤ lo) (hhi : hi ≤ 1114111) (hlo : lo ≤ L) (hL : L ≤ hi)
    (hA : ∀ x, lo ≤ x → x < L → lexB (encS x) p = true) (hB : L = hi ∨ lexB (encS L) p = false) : p <+: encS L ↔ ∃ m, lo ≤ m ∧ m ≤ hi ∧ p <+: encS m := by
  constructor
  · intro h; exact ⟨L, hlo, hL, h⟩
  · rintro ⟨m, h1, h2, h3⟩
    have hn := lexB_prefix p _ h3
    have hm : L ≤ m := by
      rcases Int.lt_or_le m L with h | h
      · rw [hA m h1 h] at hn; cases hn
      · exact h
    by_cases e : L = m
    · rw [e]; exact h3
    · rcases hB with h | h
      · omega
      · exact lexB_between p _ _ h (lexB_enc L m (by omega) (by omega) (by omega)) h3
theorem search_up (p : List Int) (lo L m : Int) (h0 : 0 ≤ lo) (hm : m ≤ 1114111) (hL : L ≤ m) (hA : ∀ x, lo ≤ x → x < L → lexB (encS x) p = true) (h : lexB (encS m) p = true) :
    ∀ x, lo ≤ x → x < m + 1 → lexB (encS x) p = true := by
  intro x h1 h2
  by_cases e : x = m
  · rw [e]; exact h
  · exact lexB_trans _ _ _ (lexB_enc x m (by omega) (by omega) hm) h
theorem drop_prefix (p x : List Int) : ∀ k, k ≤ p.length → k ≤ x.length → p.take k = x.take k → (p <+: x ↔ p.drop k <+: x.drop k) := by
  intro k h1 h2 h3
  constructor
  · rintro ⟨t, rfl⟩
    rw [List.drop_append_of_le_length h1]
    exact ⟨t, rfl⟩
  · rintro ⟨t, ht⟩
    refine ⟨t, ?_⟩
    rw [← List.take_append_drop k p, List.append_assoc, ht, h3, List.take_append_drop]

/-- The first scalar of bytes, and how many it has. -/
def first : List Int → Int × Nat
  | [] => (0, 0)
  | c :: r => if fit (c :: r) = 0 then (65533, 1) else if fit (c :: r) = sz c then (joinV ((c :: r).take (fit (c :: r))), fit (c :: r))
      else if fit (c :: r) = (c :: r).length then (0, 0) else (65533, fit (c :: r))
theorem first_zero {c : Int} {r : List Int} (h : fit (c :: r) = 0) : first (c :: r) = (65533, 1) := by rw [first, if_pos h]
theorem first_whole {c : Int} {r : List Int} (h : ¬ fit (c :: r) = 0) (h2 : fit (c :: r) = sz c) : first (c :: r) = (joinV ((c :: r).take (fit (c :: r))), fit (c :: r)) := by rw [first, if_neg h, if_pos h2]
theorem first_held {c : Int} {r : List Int} (h2 : ¬ fit (c :: r) = sz c) (h3 : fit (c :: r) = (c :: r).length) : first (c :: r) = (0, 0) := by
  rw [first, if_neg (by rw [h3]; simp), if_neg h2, if_pos h3]
theorem first_broken {c : Int} {r : List Int} (h : ¬ fit (c :: r) = 0) (h2 : ¬ fit (c :: r) = sz c) (h3 : ¬ fit (c :: r) = (c :: r).length) : first (c :: r) = (65533, fit (c :: r)) := by
  rw [first, if_neg h, if_neg h2, if_neg h3]
theorem first_le (b : List Int) : (first b).2 ≤ b.length := by
  cases b with
  | nil => simp [first]
  | cons c r =>
    have hl := fit_le (c :: r)
    by_cases h : fit (c :: r) = 0
    · rw [first_zero h]; simp
    by_cases h2 : fit (c :: r) = sz c
    · rw [first_whole h h2]; exact hl
    by_cases h3 : fit (c :: r) = (c :: r).length
    · rw [first_held h2 h3]; simp
    · rw [first_broken h h2 h3]; exact hl
theorem first_le4 (b : List Int) : (first b).2 ≤ 4 := by
  cases b with
  | nil => simp [first]
  | cons c r =>
    have hl := fit_sz c r
    have := sz_le c
    by_cases h : fit (c :: r) = 0
    · rw [first_zero h]; simp
    by_cases h2 : fit (c :: r) = sz c
    · rw [first_whole h h2]; simp only; omega
    by_cases h3 : fit (c :: r) = (c :: r).length
    · rw [first_held h2 h3]; simp
    · rw [first_broken h h2 h3]; simp only; omega
theorem take_full {c : Int} {r : List Int} (hb : 0 ≤ c) (h : ¬ fit (c :: r) = 0) (h2 : fit (c :: r) = sz c) : Full ((c :: r).take (fit (c :: r))) ∧ ((c :: r).take (fit (c :: r))).length = sz c := by
  have hl := fit_le (c :: r)
  have ht := (fit_take (c :: r) (fit (c :: r)) hl).2 (Nat.le_refl _)
  have hlen : ((c :: r).take (fit (c :: r))).length = fit (c :: r) := by rw [List.length_take]; omega
  obtain ⟨k, hk⟩ : ∃ k, fit (c :: r) = k + 1 := ⟨fit (c :: r) - 1, by omega⟩
  rw [hk] at ht hlen ⊢
  rw [List.take_succ_cons] at ht hlen ⊢
  exact ⟨fit_full hb (by omega) (by omega), by omega⟩
/-- What is told is a scalar. -/
theorem first_sc (b : List Int) (hb : Byte b) (h : (first b).2 ≠ 0) : isSc (first b).1 = true := by
  cases b with
  | nil => simp [first] at h
  | cons c r =>
    by_cases h1 : fit (c :: r) = 0
    · rw [first_zero h1]; decide
    by_cases h2 : fit (c :: r) = sz c
    · rw [first_whole h1 h2]; exact (full_join (take_full (hb c (by simp)).1 h1 h2).1).1
    by_cases h3 : fit (c :: r) = (c :: r).length
    · rw [first_held h2 h3] at h; simp at h
    · rw [first_broken h1 h2 h3]; show isSc 65533 = true; decide
theorem first_range (b : List Int) (hb : Byte b) : 0 ≤ (first b).1 ∧ (first b).1 ≤ 1114111 := by
  by_cases h : (first b).2 = 0
  · cases b with
    | nil => simp [first]
    | cons c r =>
      by_cases h1 : fit (c :: r) = 0
      · rw [first_zero h1] at h; simp at h
      by_cases h2 : fit (c :: r) = sz c
      · rw [first_whole h1 h2] at h; simp at h; omega
      by_cases h3 : fit (c :: r) = (c :: r).length
      · rw [first_held h2 h3]; simp
      · rw [first_broken h1 h2 h3] at h; simp at h; omega
  · have := (isSc_iff _).1 (first_sc b hb h); omega
/-- What is told stays told, whatever comes behind. -/
theorem first_append (b t : List Int) (h : (first b).2 ≠ 0) : first (b ++ t) = first b := by
  cases b with
  | nil => simp [first] at h
  | cons c r =>
    have ha := fit_append (c :: r) t
    have hl := fit_le (c :: r)
    have hs := fit_sz c (r ++ t)
    rw [List.cons_append] at ha ⊢
    by_cases h1 : fit (c :: r) = 0
    · have := ha.1 (by rw [h1]; simp)
      rw [first_zero h1, first_zero (by omega)]
    by_cases h2 : fit (c :: r) = sz c
    · have e : fit (c :: (r ++ t)) = fit (c :: r) := by omega
      rw [first_whole h1 h2, first_whole (by omega) (by omega), e, ← List.cons_append, List.take_append_of_le_length hl]
    by_cases h3 : fit (c :: r) = (c :: r).length
    · rw [first_held h2 h3] at h; simp at h
    · have e := ha.1 (by omega)
      rw [first_broken h1 h2 h3, first_broken (by omega) (by omega) ?_, e]
      rw [e]; simp at h3 hl ⊢; omega
theorem first_held_len (b : List Int) (h : (first b).2 = 0) : b.length ≤ 3 := by
  cases b with
  | nil => simp
  | cons c r =>
    have := fit_sz c r
    have := sz_le c
    by_cases h1 : fit (c :: r) = 0
    · rw [first_zero h1] at h; simp at h
    by_cases h2 : fit (c :: r) = sz c
    · rw [first_whole h1 h2] at h; simp at h; omega
    by_cases h3 : fit (c :: r) = (c :: r).length
    · omega
    · rw [first_broken h1 h2 h3] at h; simp at h; omega
theorem first_enc (r : Int) (t : List Int) (h : isSc r = true) : first (encS r ++ t) = (r, (encS r).length) := by
  have hf := full_enc r h
  have hj := join_enc r h
  obtain ⟨c, s, e, h1, h2⟩ := full_fit hf
  rw [e] at h1 h2 hj ⊢
  have hne : (first (c :: s)).2 ≠ 0 ∧ first (c :: s) = (r, (c :: s).length) := by
    have q : first (c :: s) = (r, (c :: s).length) := by
      rw [first_whole (by rw [h2]; simp) (by omega), h2, List.take_length, hj]
    exact ⟨by rw [q]; simp, q⟩
  rw [first_append _ _ hne.1, hne.2]

/-- All scalars of bytes, and what is held behind them. -/
def cut (b : List Int) : List Int × List Int :=
  if h : (first b).2 = 0 then ([], b) else ((first b).1 :: (cut (b.drop (first b).2)).1, (cut (b.drop (first b).2)).2)
  termination_by b.length
  decreasing_by all_goals (have := first_le b; rw [List.length_drop]; omega)
theorem cut_held {b : List Int} (h : (first b).2 = 0) : cut b = ([], b) := by rw [cut, dif_pos h]
theorem cut_step {b : List Int} (h : (first b).2 ≠ 0) : cut b = ((first b).1 :: (cut (b.drop (first b).2)).1, (cut (b.drop (first b).2)).2) := by rw [cut, dif_neg h]
theorem cut_nil : cut [] = ([], []) := cut_held rfl
theorem cut_append (n : Nat) : ∀ x y, x.length = n → cut (x ++ y) = ((cut x).1 ++ (cut ((cut x).2 ++ y)).1, (cut ((cut x).2 ++ y)).2) := by
  induction n using Nat.strongRecOn with
  | _ n ih =>
    intro x y hn
    by_cases h : (first x).2 = 0
    · rw [cut_held h]; simp
    · have hl := first_le x
      have e := first_append x y h
      rw [cut_step h, cut_step (b := x ++ y) (by rw [e]; exact h), e, List.drop_append_of_le_length hl]
      have := ih (x.drop (first x).2).length (by rw [List.length_drop]; omega) (x.drop (first x).2) y rfl
      rw [this]; simp
theorem cut_append' (x y : List Int) : cut (x ++ y) = ((cut x).1 ++ (cut ((cut x).2 ++ y)).1, (cut ((cut x).2 ++ y)).2) := cut_append _ x y rfl
theorem cut_facts (n : Nat) : ∀ b, b.length = n → (first (cut b).2).2 = 0 ∧ (Byte b → (∀ r ∈ (cut b).1, isSc r = true) ∧ Byte (cut b).2) ∧ (cut b).1.length ≤ b.length := by
  induction n using Nat.strongRecOn with
  | _ n ih =>
    intro b hn
    by_cases h : (first b).2 = 0
    · rw [cut_held h]; exact ⟨h, fun hb => ⟨by simp, hb⟩, by simp⟩
    · have hl := first_le b
      rw [cut_step h]
      have := ih (b.drop (first b).2).length (by rw [List.length_drop]; omega) (b.drop (first b).2) rfl
      refine ⟨this.1, fun hb => ?_, ?_⟩
      · have q := this.2.1 (hb.drop _)
        refine ⟨fun r hr => ?_, q.2⟩
        rcases List.mem_cons.1 hr with rfl | hr
        · exact first_sc b hb h
        · exact q.1 r hr
      · have := this.2.2; rw [List.length_drop] at this; simp; omega
theorem cut_rest (b : List Int) : (first (cut b).2).2 = 0 := (cut_facts _ b rfl).1
theorem cut_len (b : List Int) : (cut b).1.length ≤ b.length := (cut_facts _ b rfl).2.2
theorem cut_sc (b : List Int) (hb : Byte b) : ∀ r ∈ (cut b).1, isSc r = true := ((cut_facts _ b rfl).2.1 hb).1
theorem cut_byte (b : List Int) (hb : Byte b) : Byte (cut b).2 := ((cut_facts _ b rfl).2.1 hb).2

/-- All scalars of bytes; a beginning at the end is broken. -/
def runes (b : List Int) : List Int := (cut b).1 ++ if (cut b).2 = [] then [] else [65533]
theorem runes_len (b : List Int) : (runes b).length ≤ b.length + 1 := by
  have := cut_len b
  unfold runes; split <;> simp <;> omega
theorem runes_sc (b : List Int) (hb : Byte b) : ∀ r ∈ runes b, isSc r = true := by
  intro r hr
  unfold runes at hr
  rcases List.mem_append.1 hr with h | h
  · exact cut_sc b hb r h
  · split at h
    · simp at h
    · simp at h; rw [h]; decide
theorem runes_nil : runes [] = [] := by unfold runes; rw [cut_nil]; rfl
theorem runes_step {b : List Int} (h : (first b).2 ≠ 0) : runes b = (first b).1 :: runes (b.drop (first b).2) := by
  unfold runes; rw [cut_step h]; rfl
theorem runes_held {b : List Int} (h : (first b).2 = 0) (hb : b ≠ []) : runes b = [65533] := by
  unfold runes; rw [cut_held h]; simp [hb]
theorem runes_enc (l : List Int) (b : List Int) : runes (encA l ++ b) = l.map fix ++ runes b := by
  induction l with
  | nil => rfl
  | cons r l ih =>
    have h := first_enc (fix r) (encA l ++ b) (fix_sc r)
    have hl := encS_len (fix r)
    rw [encA, List.append_assoc, runes_step (by rw [h]; simp only; omega), h]
    simp only
    rw [List.drop_left, ih]; rfl

/-- Is nothing broken? -/
def vld (b : List Int) : Bool :=
  match b with
  | [] => true
  | c :: r => if h : fit (c :: r) = 0 then false else if fit (c :: r) = sz c then vld ((c :: r).drop (fit (c :: r))) else false
  termination_by b.length
  decreasing_by have := fit_le (c :: r); rw [List.length_drop]; omega
theorem vld_nil : vld [] = true := by rw [vld]
theorem vld_zero {c : Int} {r : List Int} (h : fit (c :: r) = 0) : vld (c :: r) = false := by rw [vld, dif_pos h]
theorem vld_step {c : Int} {r : List Int} (h : ¬ fit (c :: r) = 0) (h2 : fit (c :: r) = sz c) : vld (c :: r) = vld ((c :: r).drop (fit (c :: r))) := by rw [vld, dif_neg h, if_pos h2]
theorem vld_not {c : Int} {r : List Int} (h2 : ¬ fit (c :: r) = sz c) : vld (c :: r) = false := by
  by_cases h : fit (c :: r) = 0
  · exact vld_zero h
  · rw [vld, dif_neg h, if_neg h2]
theorem vld_enc1 (r : Int) (t : List Int) (h : isSc r = true) : vld (encS r ++ t) = vld t := by
  obtain ⟨c, s, e, h1, h2⟩ := full_fit (full_enc r h)
  rw [e] at h1 h2 ⊢
  have ha := fit_append (c :: s) t
  have hs := fit_sz c (s ++ t)
  rw [List.cons_append] at ha ⊢
  have hf : fit (c :: (s ++ t)) = (c :: s).length := by omega
  rw [vld_step (by rw [hf]; simp) (by omega), hf, ← List.cons_append, List.drop_left]
theorem vld_enc (l : List Int) (b : List Int) : vld (encA l ++ b) = vld b := by
  induction l with
  | nil => rfl
  | cons r l ih => rw [encA, List.append_assoc, vld_enc1 _ _ (fix_sc r), ih]
theorem vld_encA (l : List Int) : vld (encA l) = true := by
  have := vld_enc l []
  rw [List.append_nil] at this
  rw [this, vld_nil]
theorem vld_back (n : Nat) : ∀ b, b.length = n → Byte b → vld b = true → encA (runes b) = b := by
  induction n using Nat.strongRecOn with
  | _ n ih =>
    intro b hn hb h
    cases b with
    | nil => rw [runes_nil]; rfl
    | cons c r =>
      by_cases h1 : fit (c :: r) = 0
      · rw [vld_zero h1] at h; cases h
      by_cases h2 : fit (c :: r) = sz c
      · have hf := first_whole h1 h2
        have hj := full_join (take_full (hb c (by simp)).1 h1 h2).1
        rw [vld_step h1 h2] at h
        rw [runes_step (by rw [hf]; exact h1), hf, encA, fix_of _ hj.1, hj.2,
          ih _ (by rw [List.length_drop]; have := fit_le (c :: r); omega) _ rfl (hb.drop _) h, List.take_append_drop]
      · rw [vld_not h2] at h; cases h
theorem vld_iff (b : List Int) (hb : Byte b) : vld b = decide (encA (runes b) = b) := by
  rw [Bool.eq_iff_iff, decide_eq_true_iff]
  exact ⟨vld_back _ b rfl hb, fun h => by rw [← h]; exact vld_encA _⟩
theorem encS_byte (r : Int) (h : isSc r = true) : Byte (encS r) := by
  rw [isSc_iff] at h
  intro x hx
  by_cases h1 : r < 128
  · rw [encS1 h1] at hx; simp at hx; omega
  by_cases h2 : r < 2048
  · rw [encS2 h1 h2] at hx; simp at hx; omega
  by_cases h3 : r < 65536
  · rw [encS3 h2 h3] at hx; simp at hx; omega
  · rw [encS4 h3] at hx; simp at hx; omega
theorem encA_byte (l : List Int) : Byte (encA l) := by
  induction l with
  | nil => intro x hx; simp [encA] at hx
  | cons r l ih => exact (encS_byte _ (fix_sc r)).append ih
end Go.Proofs.Ytfngnmopdfojmaa
