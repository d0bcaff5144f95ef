/-
  Plain mathematics of layer 8 (parse): events, what a byte does to a parser, what bytes tell, the numbers that are told.
-/
import Derived.Test.YtfngnmopdfojmaaUMath2
namespace Go.Proofs.Ytfngnmopdfojmaa
set_option maxRecDepth 100000
set_option linter.unusedVariables false

/-- An event. -/
structure Ev where
  k : Int
  r : Int
  n : List Int
/-- A parser: its state, its numbers (all of them), what is held. -/
structure Ps where
  st : Int
  n : List Int
  h : List Int
def p0 : Ps := ⟨0, [], []⟩
/-- What is held, told. -/
def brkE (h : List Int) : List Ev := if h = [] then [] else [⟨1, 65533, []⟩]
def prE (l : List Int) : List Ev := l.map fun r => ⟨1, r, []⟩
/-- The last number, a digit more. -/
def digV (x d : Int) : Int := if 10 * (if x < 0 then 0 else x) + d > 9999 then 9999 else 10 * (if x < 0 then 0 else x) + d
def digN (n : List Int) (d : Int) : List Int := if n = [] then [d] else n.take (n.length - 1) ++ [digV (n.getD (n.length - 1) 0) d]
def semiN (n : List Int) : List Int := if n = [] then [-1, -1] else n ++ [-1]
/-- The states behind a byte in Between, in Escape; does a byte end a sequence? -/
def bbetN (b : Int) : Int := if b ≤ 47 then 2 else 0
def bescN (b : Int) : Int := if b = 91 then 3 else bbetN b
def finB (b : Int) : Bool := decide (64 ≤ b ∧ b ≤ 126)
/-- A byte. -/
def stepP (p : Ps) (b : Int) : Ps × List Ev :=
  if b = 24 ∨ b = 26 then (⟨0, p.n, []⟩, brkE p.h ++ [⟨2, b, []⟩])
  else if b = 27 then (⟨1, [], []⟩, brkE p.h)
  else if b < 32 ∨ b = 127 then (⟨p.st, p.n, []⟩, brkE p.h ++ [⟨2, b, []⟩])
  else if 128 ≤ b ∨ p.st = 0 then (⟨0, p.n, (cut (p.h ++ [b])).2⟩, prE (cut (p.h ++ [b])).1)
  else if p.st = 1 then (⟨bescN b, p.n, p.h⟩, [])
  else if p.st = 2 then (⟨bbetN b, p.n, p.h⟩, [])
  else if p.st = 3 then
    if 48 ≤ b ∧ b ≤ 57 then (⟨3, digN p.n (b - 48), p.h⟩, [])
    else if b = 59 then (⟨3, semiN p.n, p.h⟩, [])
    else if 64 ≤ b then (⟨0, p.n, p.h⟩, [⟨3, b, p.n.take 8⟩])
    else (⟨4, p.n, p.h⟩, [])
  else (⟨if 64 ≤ b then 0 else p.st, p.n, p.h⟩, [])
section
variable {p : Ps} {b : Int}
theorem step_cancel (h : b = 24 ∨ b = 26) : stepP p b = (⟨0, p.n, []⟩, brkE p.h ++ [⟨2, b, []⟩]) := by unfold stepP; rw [if_pos h]
theorem step_esc (h : b = 27) : stepP p b = (⟨1, [], []⟩, brkE p.h) := by unfold stepP; rw [if_neg (by omega), if_pos h]
theorem step_ctl (h1 : ¬ b = 24) (h2 : ¬ b = 26) (h3 : ¬ b = 27) (h : b < 32 ∨ b = 127) : stepP p b = (⟨p.st, p.n, []⟩, brkE p.h ++ [⟨2, b, []⟩]) := by
  unfold stepP; rw [if_neg (by omega), if_neg h3, if_pos h]
theorem step_take (h1 : 32 ≤ b) (h2 : ¬ b = 127) (h : 128 ≤ b ∨ p.st = 0) : stepP p b = (⟨0, p.n, (cut (p.h ++ [b])).2⟩, prE (cut (p.h ++ [b])).1) := by
  unfold stepP; rw [if_neg (by omega), if_neg (by omega), if_neg (by omega), if_pos h]
theorem step_s1 (h1 : 32 ≤ b) (h2 : b < 127) (h : p.st = 1) : stepP p b = (⟨bescN b, p.n, p.h⟩, []) := by
  unfold stepP; rw [if_neg (by omega), if_neg (by omega), if_neg (by omega), if_neg (by omega), if_pos h]
theorem step_s2 (h1 : 32 ≤ b) (h2 : b < 127) (h : p.st = 2) : stepP p b = (⟨bbetN b, p.n, p.h⟩, []) := by
  unfold stepP; rw [if_neg (by omega), if_neg (by omega), if_neg (by omega), if_neg (by omega), if_neg (by omega), if_pos h]
theorem step_dig (h1 : 48 ≤ b) (h2 : b ≤ 57) (h : p.st = 3) : stepP p b = (⟨3, digN p.n (b - 48), p.h⟩, []) := by
  unfold stepP; rw [if_neg (by omega), if_neg (by omega), if_neg (by omega), if_neg (by omega), if_neg (by omega), if_neg (by omega), if_pos h, if_pos ⟨h1, h2⟩]
theorem step_semi (h1 : b = 59) (h : p.st = 3) : stepP p b = (⟨3, semiN p.n, p.h⟩, []) := by
  unfold stepP; rw [if_neg (by omega), if_neg (by omega), if_neg (by omega), if_neg (by omega), if_neg (by omega), if_neg (by omega), if_pos h, if_neg (by omega), if_pos h1]
theorem step_fin (h1 : 64 ≤ b) (h2 : b < 127) (h : p.st = 3) : stepP p b = (⟨0, p.n, p.h⟩, [⟨3, b, p.n.take 8⟩]) := by
  unfold stepP; rw [if_neg (by omega), if_neg (by omega), if_neg (by omega), if_neg (by omega), if_neg (by omega), if_neg (by omega), if_pos h, if_neg (by omega), if_neg (by omega), if_pos h1]
theorem step_idle (h1 : 32 ≤ b) (h2 : b < 64) (h3 : b < 48 ∨ 57 < b) (h4 : ¬ b = 59) (h : p.st = 3) : stepP p b = (⟨4, p.n, p.h⟩, []) := by
  unfold stepP; rw [if_neg (by omega), if_neg (by omega), if_neg (by omega), if_neg (by omega), if_neg (by omega), if_neg (by omega), if_pos h, if_neg (by omega), if_neg (by omega), if_neg (by omega)]
theorem step_s4 (h1 : 32 ≤ b) (h2 : b < 127) (h : p.st = 4) : stepP p b = (⟨if 64 ≤ b then 0 else 4, p.n, p.h⟩, []) := by
  unfold stepP; rw [if_neg (by omega), if_neg (by omega), if_neg (by omega), if_neg (by omega), if_neg (by omega), if_neg (by omega), if_neg (by omega), h]
end

/-- Numbers that a parser may have. -/
def NumOk (n : List Int) : Prop := ∀ x ∈ n, -1 ≤ x ∧ x ≤ 9999
/-- What a parser always is. -/
structure PsOk (p : Ps) : Prop where
  held : (first p.h).2 = 0
  byte : Byte p.h
  st0 : 0 ≤ p.st
  st4 : p.st ≤ 4
  num : NumOk p.n
theorem ok0 : PsOk p0 := ⟨rfl, (by intro x hx; simp [p0] at hx), by simp [p0], by simp [p0], by intro x hx; simp [p0] at hx⟩
theorem PsOk.len {p : Ps} (h : PsOk p) : p.h.length ≤ 3 := first_held_len _ h.held
theorem dig_range (x d : Int) (h0 : 0 ≤ d) (hx : x ≤ 9999) : -1 ≤ digV x d ∧ digV x d ≤ 9999 := by unfold digV; split <;> split at * <;> omega
theorem NumOk.dig {n : List Int} (h : NumOk n) (d : Int) (h0 : 0 ≤ d) (h9 : d ≤ 9) : NumOk (digN n d) := by
  unfold digN
  split
  · intro x hx; simp at hx; omega
  · rename_i hn
    intro x hx
    rcases List.mem_append.1 hx with q | q
    · exact h x (List.mem_of_mem_take q)
    · simp only [List.mem_singleton] at q
      subst q
      have hm : n.getD (n.length - 1) 0 ∈ n := getD_mem n _ (by have := List.length_pos_iff.2 hn; omega)
      exact dig_range _ d h0 (h _ hm).2
theorem NumOk.semi {n : List Int} (h : NumOk n) : NumOk (semiN n) := by
  unfold semiN
  split
  · intro x hx; simp at hx; omega
  · intro x hx
    rcases List.mem_append.1 hx with q | q
    · exact h x q
    · simp at q; omega
theorem dig_len (n : List Int) (d : Int) : (digN n d).length ≤ n.length + 1 := by
  unfold digN; split
  · simp
  · rename_i h; have := List.length_pos_iff.2 h; simp <;> omega
theorem semi_len (n : List Int) : (semiN n).length ≤ n.length + 2 := by
  unfold semiN; split <;> simp
theorem brk_len (h : List Int) : (brkE h).length ≤ 1 := by unfold brkE; split <;> simp
theorem step_ok (p : Ps) (b : Int) (h : PsOk p) (h0 : 0 ≤ b) (h1 : b ≤ 255) : PsOk (stepP p b).1 := by
  have hb : Byte (p.h ++ [b]) := h.byte.append (by intro x hx; simp at hx; omega)
  have nil : (first ([] : List Int)).2 = 0 := rfl
  have nilb : Byte ([] : List Int) := by intro x hx; simp at hx
  have niln : NumOk ([] : List Int) := by intro x hx; simp at hx
  unfold stepP
  have a0 := h.st0
  have a4 := h.st4
  have b1 : 0 ≤ bbetN b ∧ bbetN b ≤ 4 := by unfold bbetN; split <;> omega
  have b2 : 0 ≤ bescN b ∧ bescN b ≤ 4 := by unfold bescN; split <;> omega
  repeat' split
  all_goals first
    | (refine ⟨nil, nilb, ?_, ?_, h.num⟩ <;> dsimp only <;> omega)
    | (refine ⟨nil, nilb, ?_, ?_, niln⟩ <;> dsimp only <;> omega)
    | (refine ⟨cut_rest _, cut_byte _ hb, ?_, ?_, h.num⟩ <;> dsimp only <;> omega)
    | (refine ⟨h.held, h.byte, ?_, ?_, h.num⟩ <;> dsimp only <;> omega)
    | (refine ⟨h.held, h.byte, ?_, ?_, h.num.dig _ (by omega) (by omega)⟩ <;> dsimp only <;> omega)
    | (refine ⟨h.held, h.byte, ?_, ?_, h.num.semi⟩ <;> dsimp only <;> omega)
theorem step_n (p : Ps) (b : Int) : (stepP p b).1.n.length ≤ p.n.length + 2 := by
  have := dig_len p.n (b - 48)
  have := semi_len p.n
  unfold stepP
  repeat' split
  all_goals (dsimp only; first | omega | simp)
theorem step_e (p : Ps) (b : Int) (h : PsOk p) : (stepP p b).2.length ≤ 4 := by
  have := brk_len p.h
  have := cut_len (p.h ++ [b])
  have := h.len
  unfold stepP
  repeat' split
  all_goals (simp only [List.length_append, List.length_cons, List.length_nil, prE, List.length_map] at *; omega)

/-- Bytes, one by one. -/
def feedP (p : Ps) : List Int → Ps × List Ev
  | [] => (p, [])
  | b :: bs => ((feedP (stepP p b).1 bs).1, (stepP p b).2 ++ (feedP (stepP p b).1 bs).2)
theorem feed_append (x y : List Int) : ∀ p, feedP p (x ++ y) = ((feedP (feedP p x).1 y).1, (feedP p x).2 ++ (feedP (feedP p x).1 y).2) := by
  induction x with
  | nil => intro p; simp [feedP]
  | cons b x ih => intro p; simp [feedP, ih]
theorem feed_snoc (p : Ps) (x : List Int) (b : Int) : feedP p (x ++ [b]) = ((stepP (feedP p x).1 b).1, (feedP p x).2 ++ (stepP (feedP p x).1 b).2) := by
  rw [feed_append]; simp [feedP]
theorem feed_facts (bs : List Int) : ∀ p, PsOk p → Byte bs → PsOk (feedP p bs).1 ∧ (feedP p bs).1.n.length ≤ p.n.length + 2 * bs.length ∧ (feedP p bs).2.length ≤ 4 * bs.length := by
  induction bs with
  | nil => intro p h _; exact ⟨h, by simp [feedP], by simp [feedP]⟩
  | cons b bs ih =>
    intro p h hb
    have hb0 := hb b (by simp)
    obtain ⟨q1, q2, q3⟩ := ih (stepP p b).1 (step_ok p b h hb0.1 hb0.2) (fun x hx => hb x (by simp [hx]))
    have := step_n p b
    have := step_e p b h
    refine ⟨q1, ?_, ?_⟩
    · simp only [feedP, List.length_cons]; omega
    · simp only [feedP, List.length_append, List.length_cons]; omega
/-- All that bytes tell. -/
def allP (bs : List Int) : List Ev := (feedP p0 bs).2 ++ brkE (feedP p0 bs).1.h
def restP (p : Ps) : Bool := decide (p.st = 0) && decide (p.h = [])

/-! ### events whose scalars are runes -/
def EvB (e : Ev) : Prop := -2147483648 ≤ e.r ∧ e.r ≤ 2147483647 ∧ e.n.length ≤ 9223372036854775807
theorem step_b (p : Ps) (b : Int) (h : PsOk p) (h0 : 0 ≤ b) (h1 : b ≤ 255) : ∀ e ∈ (stepP p b).2, EvB e := by
  have hb : Byte (p.h ++ [b]) := h.byte.append (by intro x hx; simp at hx; omega)
  have hbrk : ∀ e ∈ brkE p.h, EvB e := by
    intro e he; unfold brkE at he; split at he
    · simp at he
    · simp at he; subst he; exact ⟨by decide, by decide, by simp⟩
  have hone : ∀ e ∈ brkE p.h ++ [⟨2, b, []⟩], EvB e := by
    intro e he
    rcases List.mem_append.1 he with q | q
    · exact hbrk e q
    · simp at q; subst q; exact ⟨by show -2147483648 ≤ b; omega, by show b ≤ 2147483647; omega, by simp⟩
  unfold stepP
  repeat' split
  all_goals first
    | exact hone
    | exact hbrk
    | (intro e he; simp at he; done)
    | (intro e he; simp at he; subst he; exact ⟨by show -2147483648 ≤ b; omega, by show b ≤ 2147483647; omega, by show (p.n.take 8).length ≤ _; rw [List.length_take]; omega⟩)
    | (intro e he
       simp only [prE, List.mem_map] at he
       obtain ⟨r, hr, rfl⟩ := he
       have := (isSc_iff r).1 (cut_sc _ hb r hr)
       exact ⟨by show -2147483648 ≤ r; omega, by show r ≤ 2147483647; omega, by simp⟩)
theorem feed_b (bs : List Int) : ∀ p, PsOk p → Byte bs → ∀ e ∈ (feedP p bs).2, EvB e := by
  induction bs with
  | nil => intro p _ _ e he; simp [feedP] at he
  | cons b bs ih =>
    intro p h hb e he
    have hb0 := hb b (by simp)
    simp only [feedP] at he
    rcases List.mem_append.1 he with q | q
    · exact step_b p b h hb0.1 hb0.2 e q
    · exact ih _ (step_ok p b h hb0.1 hb0.2) (fun x hx => hb x (by simp [hx])) e q

theorem brk_b (h : List Int) : ∀ e ∈ brkE h, EvB e := by
  intro e he; unfold brkE at he; split at he
  · simp at he
  · simp at he; subst he; exact ⟨by decide, by decide, by simp⟩

/-! ### the program's nine numbers -/
structure Args (l n : List Int) : Prop where
  len : l.length = 9
  num : NumOk l
  eq : l.take (min n.length 8) = n.take 8
theorem NumOk.set {l : List Int} (h : NumOk l) (i : Nat) (x : Int) (h0 : -1 ≤ x) (h1 : x ≤ 9999) : NumOk (l.set i x) := by
  intro y hy
  rcases List.mem_or_eq_of_mem_set hy with q | q
  · exact h y q
  · subst q; exact ⟨h0, h1⟩
theorem Args.nil {l n : List Int} (h : Args l n) : Args l [] := ⟨h.len, h.num, by simp⟩
theorem take_set_eq (l : List Int) (i : Nat) (x : Int) (h : i < l.length) : (l.set i x).take (i + 1) = l.take i ++ [x] := by
  rw [List.take_succ_eq_append_getElem (by simpa using h), List.take_set_of_le (Nat.le_refl _)]
  simp
theorem Args.begin {l n : List Int} (h : Args l n) : Args (l.set (min n.length 8) (-1)) (n ++ [-1]) := by
  have hl := h.len
  refine ⟨by simpa using hl, h.num.set _ _ (by omega) (by omega), ?_⟩
  rw [List.length_append]
  simp only [List.length_cons, List.length_nil]
  by_cases c : n.length < 8
  · have e := h.eq
    rw [Nat.min_eq_left (by omega), List.take_of_length_le (l := n) (by omega)] at e
    rw [Nat.min_eq_left (by omega), Nat.min_eq_left (by omega), take_set_eq l _ _ (by omega), e, List.take_of_length_le (by simp; omega)]
  · have e := h.eq
    rw [Nat.min_eq_right (by omega)] at e
    rw [Nat.min_eq_right (by omega), Nat.min_eq_right (by omega), List.take_set_of_le (Nat.le_refl _), e, List.take_append_of_le_length (by omega)]
/-- The last place's value, where there is a number. -/
theorem Args.last {l n : List Int} (h : Args l n) (hn : n ≠ []) (hs : n.length ≤ 8) : l.getD (n.length - 1) 0 = n.getD (n.length - 1) 0 := by
  have hp := List.length_pos_iff.2 hn
  have e := h.eq
  rw [Nat.min_eq_left hs, List.take_of_length_le (l := n) (by omega)] at e
  conv => rhs; rw [← e]
  simp only [List.getD_eq_getElem?_getD, List.getElem?_take]
  rw [if_pos (by simp; have := h.len; omega)]
  congr 2
  rw [List.length_take, h.len]; omega
theorem Args.digit {l n : List Int} (h : Args l n) (hn : n ≠ []) (d : Int) (h0 : 0 ≤ d) (h9 : d ≤ 9) : Args (l.set (min n.length 9 - 1) (digV (l.getD (min n.length 9 - 1) 0) d)) (digN n d) := by
  have hp := List.length_pos_iff.2 hn
  have hl := h.len
  have hx : l.getD (min n.length 9 - 1) 0 ∈ l := getD_mem l _ (by omega)
  have hr := dig_range (l.getD (min n.length 9 - 1) 0) d h0 (h.num _ hx).2
  refine ⟨by simpa using hl, h.num.set _ _ hr.1 hr.2, ?_⟩
  have hlen : (digN n d).length = n.length := by unfold digN; rw [if_neg hn]; simp; omega
  rw [hlen]
  by_cases c : n.length ≤ 8
  · have e := h.eq
    have hla := h.last hn c
    rw [Nat.min_eq_left c, List.take_of_length_le (l := n) (by omega)] at e
    rw [Nat.min_eq_left (by omega : n.length ≤ 9), Nat.min_eq_left c, hla]
    have e2 := take_set_eq l (n.length - 1) (digV (n.getD (n.length - 1) 0) d) (by omega)
    rw [show n.length - 1 + 1 = n.length by omega] at e2
    rw [e2, List.take_of_length_le (l := digN n d) (by rw [hlen]; omega)]
    unfold digN
    rw [if_neg hn]
    congr 1
    have e3 : (l.take n.length).take (n.length - 1) = n.take (n.length - 1) := by rw [e]
    rw [List.take_take, Nat.min_eq_left (by omega)] at e3
    exact e3
  · have e := h.eq
    rw [Nat.min_eq_right (by omega)] at e
    rw [Nat.min_eq_right (by omega : 9 ≤ n.length), Nat.min_eq_right (by omega), List.take_set_of_le (by omega), e]
    unfold digN
    rw [if_neg hn, List.take_append_of_le_length (by simp; omega), List.take_take, Nat.min_eq_left (by omega)]
theorem dig_begin (d : Int) (h0 : 0 ≤ d) (h9 : d ≤ 9) : digN ([] ++ [-1]) d = digN [] d := by
  simp [digN, digV]; omega
theorem Args.digit0 {l : List Int} (h : Args l []) (d : Int) (h0 : 0 ≤ d) (h9 : d ≤ 9) : Args (l.set 0 d) [d] := by
  have hl := h.len
  refine ⟨by simpa using hl, h.num.set _ _ (by omega) (by omega), ?_⟩
  have := take_set_eq l 0 d (by omega)
  simpa using this
theorem Args.told {l n : List Int} (h : Args l n) : l.take (min (min n.length 9) 8) = n.take 8 := by rw [← h.eq]; congr 1; omega
end Go.Proofs.Ytfngnmopdfojmaa
