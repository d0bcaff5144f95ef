/-
  Plain mathematics of layer 3 (width): a rune's width, totals, clusters, how many fit. No Go text, no program.
-/
namespace Go.Proofs.YtdeoeihbmdgipaaDoor
set_option linter.unusedVariables false

/-- Is a number a scalar? -/
def isSc (r : Int) : Bool := decide (0 ≤ r ∧ r ≤ 1114111 ∧ (r < 55296 ∨ 57343 < r))
/-- Does a number lie in one of the ranges of a list, two numbers each? -/
def inB (r : Int) : List Int → Bool
  | a :: b :: l => (decide (a ≤ r) && decide (r ≤ b)) || inB r l
  | _ => false
def marks : List Int := [768, 879, 8203, 8207, 8400, 8447, 65024, 65039, 65056, 65071]
def wides : List Int := [4352, 4447, 11904, 12350, 12353, 42191, 44032, 55203, 63744, 64255, 65072, 65135, 65280, 65376, 65504, 65510, 127744, 128591, 129280, 129535, 131072, 262141]
/-- A rune's width. -/
def wOf (r : Int) : Int :=
  if r < 32 ∨ inB r [127, 159] = true ∨ isSc r = false then -1 else if inB r marks = true then 0 else if inB r wides = true then 2 else 1
theorem wOf_range (r : Int) : wOf r = -1 ∨ wOf r = 0 ∨ wOf r = 1 ∨ wOf r = 2 := by
  unfold wOf; split; simp; split; simp; split <;> simp
/-- .. without those that take no part. -/
def pos (r : Int) : Int := if 0 < wOf r then wOf r else 0
theorem pos_range (r : Int) : 0 ≤ pos r ∧ pos r ≤ 2 := by unfold pos; have := wOf_range r; split <;> omega
def tot : List Int → Int
  | [] => 0
  | r :: l => pos r + tot l
theorem tot_append (a b : List Int) : tot (a ++ b) = tot a + tot b := by
  induction a with
  | nil => simp [tot]
  | cons r l ih => simp [tot, ih]; omega
theorem tot_range (l : List Int) : 0 ≤ tot l ∧ tot l ≤ 2 * l.length := by
  induction l with
  | nil => simp [tot]
  | cons r l ih => have := pos_range r; simp [tot]; omega
theorem tot_take_mono (l : List Int) (i j : Nat) (h : i ≤ j) : tot (l.take i) ≤ tot (l.take j) := by
  have e : l.take j = l.take i ++ (l.take j).drop i := by
    have := List.take_append_drop i (l.take j)
    rw [List.take_take, Nat.min_eq_left h] at this
    exact this.symm
  rw [e, tot_append]
  have := (tot_range ((l.take j).drop i)).1
  omega

/-- Runes with their marks. -/
def clus : List Int → List (List Int)
  | [] => []
  | r :: l => if wOf r < 1 then clus l else (r :: l.takeWhile (fun x => wOf x == 0)) :: clus l
def sums : List (List Int) → Int
  | [] => 0
  | c :: l => tot c + sums l
theorem tot_marks (l : List Int) : tot (l.takeWhile (fun x => wOf x == 0)) = 0 := by
  induction l with
  | nil => rfl
  | cons r l ih =>
    rw [List.takeWhile_cons]
    by_cases h : (wOf r == 0) = true
    · rw [if_pos h]; simp at h; simp [tot, pos, h, ih]
    · rw [if_neg h]; rfl
theorem sums_clus (l : List Int) : sums (clus l) = tot l := by
  induction l with
  | nil => rfl
  | cons r l ih =>
    unfold clus
    by_cases h : wOf r < 1
    · rw [if_pos h, ih]; simp [tot, pos]; omega
    · rw [if_neg h]; simp [sums, tot, tot_marks, ih]
theorem clus_len (l : List Int) : (clus l).length ≤ l.length := by
  induction l with
  | nil => simp [clus]
  | cons r l ih => unfold clus; split <;> simp <;> omega

/-- How many runes have room (n not below 0). -/
def fitF (n : Int) : List Int → Nat
  | [] => 0
  | r :: l => if pos r ≤ n then 1 + fitF (n - pos r) l else 0
def fitN (n : Int) (l : List Int) : Nat := if n < 0 then 0 else fitF n l
theorem fitF_le (l : List Int) : ∀ n, fitF n l ≤ l.length := by
  induction l with
  | nil => intro n; simp [fitF]
  | cons r l ih => intro n; unfold fitF; split; have := ih (n - pos r); simp; omega; simp
theorem fitF_iff (l : List Int) : ∀ n k, k < l.length → (k + 1 ≤ fitF n l ↔ tot (l.take (k + 1)) ≤ n) := by
  induction l with
  | nil => intro n k h; simp at h
  | cons r l ih =>
    intro n k h
    unfold fitF
    have hp := pos_range r
    rw [List.take_succ_cons]
    simp only [tot]
    by_cases hr : pos r ≤ n
    · rw [if_pos hr]
      cases k with
      | zero => simp [tot]; omega
      | succ k =>
        have := ih (n - pos r) k (by simp at h; omega)
        constructor
        · intro q; have := this.1 (by omega); omega
        · intro q; have := this.2 (by omega); omega
    · rw [if_neg hr]
      have := (tot_range (l.take k)).1
      constructor
      · intro q; omega
      · intro q; omega
theorem fitF_tot (n : Int) (l : List Int) (h : 0 ≤ n) : tot (l.take (fitF n l)) ≤ n := by
  by_cases h0 : fitF n l = 0
  · rw [h0]; simpa [tot] using h
  · have hl := fitF_le l n
    have := (fitF_iff l n (fitF n l - 1) (by omega)).1 (by omega)
    rw [show fitF n l - 1 + 1 = fitF n l by omega] at this
    exact this
theorem fitF_mono (l : List Int) (n m : Int) (h : n ≤ m) : fitF n l ≤ fitF m l := by
  by_cases h0 : fitF n l = 0
  · omega
  · have hl := fitF_le l n
    have q := (fitF_iff l n (fitF n l - 1) (by omega)).1 (by omega)
    have := (fitF_iff l m (fitF n l - 1) (by omega)).2 (by omega)
    omega
theorem fitN_mono (l : List Int) (n m : Int) (h : n ≤ m) : fitN n l ≤ fitN m l := by
  unfold fitN
  by_cases h1 : n < 0
  · rw [if_pos h1]; omega
  · rw [if_neg h1, if_neg (by omega)]; exact fitF_mono l n m h
theorem fitN_le (n : Int) (l : List Int) : fitN n l ≤ l.length := by unfold fitN; split; omega; exact fitF_le l n
theorem fitN_append (n : Int) (a b : List Int) : fitN n a ≤ fitN n (a ++ b) := by
  unfold fitN
  by_cases h1 : n < 0
  · rw [if_pos h1]; omega
  · rw [if_neg h1, if_neg h1]
    by_cases h0 : fitF n a = 0
    · omega
    · have hl := fitF_le a n
      have q := (fitF_iff a n (fitF n a - 1) (by omega)).1 (by omega)
      have := (fitF_iff (a ++ b) n (fitF n a - 1) (by simp; omega)).2 (by rw [List.take_append_of_le_length (by omega)]; exact q)
      omega
theorem fitN_all (n : Int) (l : List Int) (h : 2 * (l.length : Int) ≤ n) : fitN n l = l.length := by
  unfold fitN
  rw [if_neg (by omega)]
  have hl := fitF_le l n
  by_cases h0 : l.length = 0
  · omega
  · have ht := (tot_range l).2
    have := (fitF_iff l n (l.length - 1) (by omega)).2 (by rw [show l.length - 1 + 1 = l.length by omega, List.take_length]; omega)
    omega
end Go.Proofs.YtdeoeihbmdgipaaDoor
