/-
  Plain mathematics of layer 3 (width): a rune's width, totals, clusters, how many fit. No Go text, no program.
  Contracts of the small functions: which numbers are scalars; a number in ranges; a rune's width, by the document and by the program's table.
  Contracts: a rune's width by the program's table.
  Contracts of the document's own answers: a number in ranges, a rune's width.
  What the row's condition on the program's table gives the walks, and a start that meets it.
-/
import Derived.Test.YtiifeniijcnahaaGreatDoorRows
import Derived.Test.YtiifeniijcnahaaGreatDoorGen
import Derived.Deep.MidRow
import Derived.Deep.WholeRow
import Derived.Lib.MinMax
import Derived.LaidMore
import Derived.Deep.Strs
import Derived.Stop.Joined
namespace Go.Proofs.YtiifeniijcnahaaGreatDoor
set_option maxRecDepth 100000
set_option linter.unusedVariables false

/-- Is a number a scalar? -/
def isSc (r : Int) : Bool := decide (0 ≤ r ∧ r ≤ 1114111 ∧ (r < 55296 ∨ 57343 < r))
/-- Does a number lie in one of the ranges of a list, two numbers each? -/
def inB (r : Int) : List Int → Bool
  | a :: b :: l => (decide (a ≤ r) && decide (r ≤ b)) || inB r l
  | _ => false
def marks : List Int := [768, 879, 8203, 8207, 8400, 8447, 65024, 65039, 65056, 65071]
def wides : List Int := [4352, 4447, 11904, 12350, 12353, 42191, 44032, 55203, 63744, 64255, 65072, 65135, 65280, 65376, 65504, 65510, 127744, 128591, 129280, 129535, 131072, 262141]
/-- A rune's width. -/
def wOf (r : Int) : Int :=
  if r < 32 ∨ inB r [127, 159] = true ∨ isSc r = false then -1 else if inB r marks = true then 0 else if inB r wides = true then 2 else 1
theorem wOf_range (r : Int) : wOf r = -1 ∨ wOf r = 0 ∨ wOf r = 1 ∨ wOf r = 2 := by
  unfold wOf; split; simp; split; simp; split <;> simp
/-- .. without those that take no part. -/
def pos (r : Int) : Int := if 0 < wOf r then wOf r else 0
theorem pos_range (r : Int) : 0 ≤ pos r ∧ pos r ≤ 2 := by unfold pos; have := wOf_range r; split <;> omega
def tot : List Int → Int
  | [] => 0
  | r :: l => pos r + tot l
theorem tot_append (a b : List Int) : tot (a ++ b) = tot a + tot b := by
  induction a with
  | nil => simp [tot]
  | cons r l ih => simp [tot, ih]; omega
theorem tot_range (l : List Int) : 0 ≤ tot l ∧ tot l ≤ 2 * l.length := by
  induction l with
  | nil => simp [tot]
  | cons r l ih => have := pos_range r; simp [tot]; omega
theorem tot_take_mono (l : List Int) (i j : Nat) (h : i ≤ j) : tot (l.take i) ≤ tot (l.take j) := by
  have e : l.take j = l.take i ++ (l.take j).drop i := by
    have := List.take_append_drop i (l.take j)
    rw [List.take_take, Nat.min_eq_left h] at this
    exact this.symm
  rw [e, tot_append]
  have := (tot_range ((l.take j).drop i)).1
  omega

/-- Runes with their marks. -/
def clus : List Int → List (List Int)
  | [] => []
  | r :: l => if wOf r < 1 then clus l else (r :: l.takeWhile (fun x => wOf x == 0)) :: clus l
def sums : List (List Int) → Int
  | [] => 0
  | c :: l => tot c + sums l
theorem tot_marks (l : List Int) : tot (l.takeWhile (fun x => wOf x == 0)) = 0 := by
  induction l with
  | nil => rfl
  | cons r l ih =>
    rw [List.takeWhile_cons]
    by_cases h : (wOf r == 0) = true
    · rw [if_pos h]; simp at h; simp [tot, pos, h, ih]
    · rw [if_neg h]; rfl
theorem sums_clus (l : List Int) : sums (clus l) = tot l := by
  induction l with
  | nil => rfl
  | cons r l ih =>
    unfold clus
    by_cases h : wOf r < 1
    · rw [if_pos h, ih]; simp [tot, pos]; omega
    · rw [if_neg h]; simp [sums, tot, tot_marks, ih]
theorem clus_len (l : List Int) : (clus l).length ≤ l.length := by
  induction l with
  | nil => simp [clus]
  | cons r l ih => unfold clus; split <;> simp <;> omega

/-- How many runes have room (n not below 0). -/
def fitF (n : Int) : List Int → Nat
  | [] => 0
  | r :: l => if pos r ≤ n then 1 + fitF (n - pos r) l else 0
def fitN (n : Int) (l : List Int) : Nat := if n < 0 then 0 else fitF n l
theorem fitF_le (l : List Int) : ∀ n, fitF n l ≤ l.length := by
  induction l with
  | nil => intro n; simp [fitF]
  | cons r l ih => intro n; unfold fitF; split; have := ih (n - pos r); simp; omega; simp
theorem fitF_iff (l : List Int) : ∀ n k, k < l.length → (k + 1 ≤ fitF n l ↔ tot (l.take (k + 1)) ≤ n) := by
  induction l with
  | nil => intro n k h; simp at h
  | cons r l ih =>
    intro n k h
    unfold fitF
    have hp := pos_range r
    rw [List.take_succ_cons]
    simp only [tot]
    by_cases hr : pos r ≤ n
    · rw [if_pos hr]
      cases k with
      | zero => simp [tot]; omega
      | succ k =>
        have := ih (n - pos r) k (by simp at h; omega)
        constructor
        · intro q; have := this.1 (by omega); omega
        · intro q; have := this.2 (by omega); omega
    · rw [if_neg hr]
      have := (tot_range (l.take k)).1
      constructor
      · intro q; omega
      · intro q; omega
theorem fitF_tot (n : Int) (l : List Int) (h : 0 ≤ n) : tot (l.take (fitF n l)) ≤ n := by
  by_cases h0 : fitF n l = 0
  · rw [h0]; simpa [tot] using h
  · have hl := fitF_le l n
    have := (fitF_iff l n (fitF n l - 1) (by omega)).1 (by omega)
    rw [show fitF n l - 1 + 1 = fitF n l by omega] at this
    exact this
theorem fitF_mono (l : List Int) (n m : Int) (h : n ≤ m) : fitF n l ≤ fitF m l := by
  by_cases h0 : fitF n l = 0
  · omega
  · have hl := fitF_le l n
    have q := (fitF_iff l n (fitF n l - 1) (by omega)).1 (by omega)
    have := (fitF_iff l m (fitF n l - 1) (by omega)).2 (by omega)
    omega
theorem fitN_mono (l : List Int) (n m : Int) (h : n ≤ m) : fitN n l ≤ fitN m l := by
  unfold fitN
  by_cases h1 : n < 0
  · rw [if_pos h1]; omega
  · rw [if_neg h1, if_neg (by omega)]; exact fitF_mono l n m h
theorem fitN_le (n : Int) (l : List Int) : fitN n l ≤ l.length := by unfold fitN; split; omega; exact fitF_le l n
theorem fitN_append (n : Int) (a b : List Int) : fitN n a ≤ fitN n (a ++ b) := by
  unfold fitN
  by_cases h1 : n < 0
  · rw [if_pos h1]; omega
  · rw [if_neg h1, if_neg h1]
    by_cases h0 : fitF n a = 0
    · omega
    · have hl := fitF_le a n
      have q := (fitF_iff a n (fitF n a - 1) (by omega)).1 (by omega)
      have := (fitF_iff (a ++ b) n (fitF n a - 1) (by simp; omega)).2 (by rw [List.take_append_of_le_length (by omega)]; exact q)
      omega
theorem fitN_all (n : Int) (l : List Int) (h : 2 * (l.length : Int) ≤ n) : fitN n l = l.length := by
  unfold fitN
  rw [if_neg (by omega)]
  have hl := fitF_le l n
  by_cases h0 : l.length = 0
  · omega
  · have ht := (tot_range l).2
    have := (fitF_iff l n (l.length - 1) (by omega)).2 (by rw [show l.length - 1 + 1 = l.length by omega, List.take_length]; omega)
    omega
end Go.Proofs.YtiifeniijcnahaaGreatDoor

namespace Go.Proofs.YtiifeniijcnahaaGreatDoor
set_option maxRecDepth 100000
open Go.ChangeShapes Go.WideShapes Go.ChangeAt Go.RowKit
set_option linter.unusedVariables false

theorem info21 : (Tryz.prog.info? 21).map (fun i => (i.zero, i.size, i.bytes)) = some (some (.int .i32 0), 1, 4) := by kernel_rfl
theorem info3 : (Tryz.prog.info? 3).map (fun i => (i.zero, i.size, i.bytes)) = some (some (.int .i64 0), 1, 8) := by kernel_rfl
theorem info130 : (Tryz.prog.info? 130).map (·.size) = some 54 := by kernel_rfl
theorem info129 : (Tryz.prog.info? 129).map (·.size) = some 3 := by kernel_rfl
theorem elem139 : Elem Tryz.prog 139 21 .i32 4 := ⟨Tryz.underlying139, info21⟩
theorem elem141 : Elem Tryz.prog 141 3 .i64 8 := ⟨Tryz.underlying141, info3⟩

/-- The program's table: from, to, width. -/
def spans : List (Int × Int × Int) := [(0, 31, -1), (127, 159, -1), (768, 879, 0), (8203, 8207, 0), (8400, 8447, 0), (65024, 65039, 0), (65056, 65071, 0), (4352, 4447, 2), (11904, 12350, 2), (12353, 42191, 2), (44032, 55203, 2),
  (63744, 64255, 2), (65072, 65135, 2), (65280, 65376, 2), (65504, 65510, 2), (127744, 128591, 2), (129280, 129535, 2), (131072, 262141, 2)]
def look (r : Int) : List (Int × Int × Int) → Int
  | [] => 1
  | s :: l => if s.1 ≤ r ∧ r ≤ s.2.1 then s.2.2 else look r l
theorem look_drop (r : Int) (k : Nat) (h : k < 18) (f t w : Int) (e : spans[k]? = some (f, t, w)) : look r (spans.drop k) = if f ≤ r ∧ r ≤ t then w else look r (spans.drop (k + 1)) := by
  obtain ⟨hk, e⟩ := List.getElem?_eq_some_iff.1 e
  rw [List.drop_eq_getElem_cons hk, e]; rfl
theorem inB_marks (r : Int) : (inB r marks = true) ↔ ((768 ≤ r ∧ r ≤ 879) ∨ (8203 ≤ r ∧ r ≤ 8207) ∨ (8400 ≤ r ∧ r ≤ 8447) ∨ (65024 ≤ r ∧ r ≤ 65039) ∨ (65056 ≤ r ∧ r ≤ 65071)) := by
  simp only [inB, marks, Bool.or_eq_true, Bool.and_eq_true, decide_eq_true_iff, Bool.false_eq_true, or_false]
theorem inB_wides (r : Int) : (inB r wides = true) ↔ ((4352 ≤ r ∧ r ≤ 4447) ∨ (11904 ≤ r ∧ r ≤ 12350) ∨ (12353 ≤ r ∧ r ≤ 42191) ∨ (44032 ≤ r ∧ r ≤ 55203) ∨ (63744 ≤ r ∧ r ≤ 64255) ∨ (65072 ≤ r ∧ r ≤ 65135) ∨ (65280 ≤ r ∧ r ≤ 65376) ∨ (65504 ≤ r ∧ r ≤ 65510) ∨ (127744 ≤ r ∧ r ≤ 128591) ∨ (129280 ≤ r ∧ r ≤ 129535) ∨ (131072 ≤ r ∧ r ≤ 262141)) := by
  simp only [inB, wides, Bool.or_eq_true, Bool.and_eq_true, decide_eq_true_iff, Bool.false_eq_true, or_false]
theorem inB_ctl (r : Int) : (inB r [127, 159] = true) ↔ (127 ≤ r ∧ r ≤ 159) := by
  simp only [inB, Bool.or_eq_true, Bool.and_eq_true, decide_eq_true_iff, Bool.false_eq_true, or_false]
theorem wOf_no (r : Int) (h : r < 32 ∨ (127 ≤ r ∧ r ≤ 159)) : wOf r = -1 := by
  unfold wOf
  rw [if_pos]
  rcases h with h | h
  · exact .inl h
  · exact .inr (.inl ((inB_ctl r).2 h))
theorem not_no (r : Int) (h : isSc r = true) (h1 : 32 ≤ r) (h2 : ¬ (127 ≤ r ∧ r ≤ 159)) : ¬ (r < 32 ∨ inB r [127, 159] = true ∨ isSc r = false) := by
  rintro (q | q | q)
  · omega
  · exact h2 ((inB_ctl r).1 q)
  · rw [h] at q; cases q
theorem wOf_mark (r : Int) (h : isSc r = true) (h1 : 32 ≤ r) (h2 : ¬ (127 ≤ r ∧ r ≤ 159)) (h3 : (768 ≤ r ∧ r ≤ 879) ∨ (8203 ≤ r ∧ r ≤ 8207) ∨ (8400 ≤ r ∧ r ≤ 8447) ∨ (65024 ≤ r ∧ r ≤ 65039) ∨ (65056 ≤ r ∧ r ≤ 65071)) : wOf r = 0 := by
  unfold wOf
  rw [if_neg (not_no r h h1 h2), if_pos ((inB_marks r).2 h3)]
theorem wOf_wide (r : Int) (h : isSc r = true) (h1 : 32 ≤ r) (h2 : ¬ (127 ≤ r ∧ r ≤ 159)) (h3 : ¬ ((768 ≤ r ∧ r ≤ 879) ∨ (8203 ≤ r ∧ r ≤ 8207) ∨ (8400 ≤ r ∧ r ≤ 8447) ∨ (65024 ≤ r ∧ r ≤ 65039) ∨ (65056 ≤ r ∧ r ≤ 65071))) (h4 : (4352 ≤ r ∧ r ≤ 4447) ∨ (11904 ≤ r ∧ r ≤ 12350) ∨ (12353 ≤ r ∧ r ≤ 42191) ∨ (44032 ≤ r ∧ r ≤ 55203) ∨ (63744 ≤ r ∧ r ≤ 64255) ∨ (65072 ≤ r ∧ r ≤ 65135) ∨ (65280 ≤ r ∧ r ≤ 65376) ∨ (65504 ≤ r ∧ r ≤ 65510) ∨ (127744 ≤ r ∧ r ≤ 128591) ∨ (129280 ≤ r ∧ r ≤ 129535) ∨ (131072 ≤ r ∧ r ≤ 262141)) : wOf r = 2 := by
  unfold wOf
  rw [if_neg (not_no r h h1 h2), if_neg (mt (inB_marks r).1 h3), if_pos ((inB_wides r).2 h4)]
theorem wOf_one (r : Int) (h : isSc r = true) (h1 : 32 ≤ r) (h2 : ¬ (127 ≤ r ∧ r ≤ 159)) (h3 : ¬ ((768 ≤ r ∧ r ≤ 879) ∨ (8203 ≤ r ∧ r ≤ 8207) ∨ (8400 ≤ r ∧ r ≤ 8447) ∨ (65024 ≤ r ∧ r ≤ 65039) ∨ (65056 ≤ r ∧ r ≤ 65071))) (h4 : ¬ ((4352 ≤ r ∧ r ≤ 4447) ∨ (11904 ≤ r ∧ r ≤ 12350) ∨ (12353 ≤ r ∧ r ≤ 42191) ∨ (44032 ≤ r ∧ r ≤ 55203) ∨ (63744 ≤ r ∧ r ≤ 64255) ∨ (65072 ≤ r ∧ r ≤ 65135) ∨ (65280 ≤ r ∧ r ≤ 65376) ∨ (65504 ≤ r ∧ r ≤ 65510) ∨ (127744 ≤ r ∧ r ≤ 128591) ∨ (129280 ≤ r ∧ r ≤ 129535) ∨ (131072 ≤ r ∧ r ≤ 262141))) : wOf r = 1 := by
  unfold wOf
  rw [if_neg (not_no r h h1 h2), if_neg (mt (inB_marks r).1 h3), if_neg (mt (inB_wides r).1 h4)]
theorem look_in (r f t w : Int) (l : List (Int × Int × Int)) (h : f ≤ r ∧ r ≤ t) : look r ((f, t, w) :: l) = w := if_pos h
theorem look_out (r f t w : Int) (l : List (Int × Int × Int)) (h : ¬ (f ≤ r ∧ r ≤ t)) : look r ((f, t, w) :: l) = look r l := if_neg h
set_option maxHeartbeats 4000000 in
theorem look_wOf (r : Int) (h : isSc r = true) : look r spans = wOf r := by
  have hs : 0 ≤ r ∧ r ≤ 1114111 ∧ (r < 55296 ∨ 57343 < r) := by simpa [isSc] using h
  unfold spans
  by_cases c0 : 0 ≤ r ∧ r ≤ 31
  · rw [look_in r _ _ _ _ c0]; exact (wOf_no r (by omega)).symm
  rw [look_out r _ _ _ _ c0]
  by_cases c1 : 127 ≤ r ∧ r ≤ 159
  · rw [look_in r _ _ _ _ c1]; exact (wOf_no r (by omega)).symm
  rw [look_out r _ _ _ _ c1]
  by_cases c2 : 768 ≤ r ∧ r ≤ 879
  · rw [look_in r _ _ _ _ c2]; exact (wOf_mark r h (by omega) (by omega) (by omega)).symm
  rw [look_out r _ _ _ _ c2]
  by_cases c3 : 8203 ≤ r ∧ r ≤ 8207
  · rw [look_in r _ _ _ _ c3]; exact (wOf_mark r h (by omega) (by omega) (by omega)).symm
  rw [look_out r _ _ _ _ c3]
  by_cases c4 : 8400 ≤ r ∧ r ≤ 8447
  · rw [look_in r _ _ _ _ c4]; exact (wOf_mark r h (by omega) (by omega) (by omega)).symm
  rw [look_out r _ _ _ _ c4]
  by_cases c5 : 65024 ≤ r ∧ r ≤ 65039
  · rw [look_in r _ _ _ _ c5]; exact (wOf_mark r h (by omega) (by omega) (by omega)).symm
  rw [look_out r _ _ _ _ c5]
  by_cases c6 : 65056 ≤ r ∧ r ≤ 65071
  · rw [look_in r _ _ _ _ c6]; exact (wOf_mark r h (by omega) (by omega) (by omega)).symm
  rw [look_out r _ _ _ _ c6]
  by_cases c7 : 4352 ≤ r ∧ r ≤ 4447
  · rw [look_in r _ _ _ _ c7]; exact (wOf_wide r h (by omega) (by omega) (by omega) (by omega)).symm
  rw [look_out r _ _ _ _ c7]
  by_cases c8 : 11904 ≤ r ∧ r ≤ 12350
  · rw [look_in r _ _ _ _ c8]; exact (wOf_wide r h (by omega) (by omega) (by omega) (by omega)).symm
  rw [look_out r _ _ _ _ c8]
  by_cases c9 : 12353 ≤ r ∧ r ≤ 42191
  · rw [look_in r _ _ _ _ c9]; exact (wOf_wide r h (by omega) (by omega) (by omega) (by omega)).symm
  rw [look_out r _ _ _ _ c9]
  by_cases c10 : 44032 ≤ r ∧ r ≤ 55203
  · rw [look_in r _ _ _ _ c10]; exact (wOf_wide r h (by omega) (by omega) (by omega) (by omega)).symm
  rw [look_out r _ _ _ _ c10]
  by_cases c11 : 63744 ≤ r ∧ r ≤ 64255
  · rw [look_in r _ _ _ _ c11]; exact (wOf_wide r h (by omega) (by omega) (by omega) (by omega)).symm
  rw [look_out r _ _ _ _ c11]
  by_cases c12 : 65072 ≤ r ∧ r ≤ 65135
  · rw [look_in r _ _ _ _ c12]; exact (wOf_wide r h (by omega) (by omega) (by omega) (by omega)).symm
  rw [look_out r _ _ _ _ c12]
  by_cases c13 : 65280 ≤ r ∧ r ≤ 65376
  · rw [look_in r _ _ _ _ c13]; exact (wOf_wide r h (by omega) (by omega) (by omega) (by omega)).symm
  rw [look_out r _ _ _ _ c13]
  by_cases c14 : 65504 ≤ r ∧ r ≤ 65510
  · rw [look_in r _ _ _ _ c14]; exact (wOf_wide r h (by omega) (by omega) (by omega) (by omega)).symm
  rw [look_out r _ _ _ _ c14]
  by_cases c15 : 127744 ≤ r ∧ r ≤ 128591
  · rw [look_in r _ _ _ _ c15]; exact (wOf_wide r h (by omega) (by omega) (by omega) (by omega)).symm
  rw [look_out r _ _ _ _ c15]
  by_cases c16 : 129280 ≤ r ∧ r ≤ 129535
  · rw [look_in r _ _ _ _ c16]; exact (wOf_wide r h (by omega) (by omega) (by omega) (by omega)).symm
  rw [look_out r _ _ _ _ c16]
  by_cases c17 : 131072 ≤ r ∧ r ≤ 262141
  · rw [look_in r _ _ _ _ c17]; exact (wOf_wide r h (by omega) (by omega) (by omega) (by omega)).symm
  rw [look_out r _ _ _ _ c17]
  exact (wOf_one r h (by omega) (by omega) (by omega) (by omega)).symm

/-- A span as cells. -/
def cellsOf3 (s : Int × Int × Int) : List Value := [.int .i32 s.1, .int .i32 s.2.1, .int .i64 s.2.2]
def spanCells : List Value := spans.flatMap cellsOf3
theorem spanCells_len : spanCells.length = 54 := by decide +kernel
/-- The program's table lies where it lies. -/
def Spans (w : World) : Prop := w.rangeAt 0 0 spanCells
theorem Spans.size {w : World} (h : Spans w) : 0 < w.heap.size := block_lt_of_cell (h 0 (.int .i32 0) rfl)
theorem Spans.keep {w w' : World} (h : Spans w) (hk : ∀ p : Addr, p.block < w.heap.size → w'.cell? p = w.cell? p) : Spans w' := fun j v hv => (hk _ (block_lt_of_cell (h j v hv))).trans (h j v hv)
theorem Spans.below {w w' : World} (h : Spans w) (hb : Below w.heap.size w w') : Spans w' := h.keep fun _ hp => hb.cell hp
theorem Spans.alloc {w : World} (h : Spans w) (o : Obj) : Spans (w.alloc o) := h.keep fun p hp => World.cell?_alloc_lt w o p hp
theorem Spans.drewN {w : World} (h : Spans w) (n : Nat) : Spans (w.drewN n) := h
theorem Spans.drew {w : World} (h : Spans w) : Spans w.drew := h

def tabArr : Array Value := spanCells.toArray
set_option maxRecDepth 100000 in
theorem tab_index (w : World) (k : Nat) (hk : k < 18) : ∃ f t d : Int, spans[k]? = some (f, t, d) ∧ (Instr.index 130 (.agg tabArr) (.int .i64 (k : Int))).run Tryz.prog w = .ok (.agg #[.int .i32 f, .int .i32 t, .int .i64 d]) w := by
  have : k = 0 ∨ k = 1 ∨ k = 2 ∨ k = 3 ∨ k = 4 ∨ k = 5 ∨ k = 6 ∨ k = 7 ∨ k = 8 ∨ k = 9 ∨ k = 10 ∨ k = 11 ∨ k = 12 ∨ k = 13 ∨ k = 14 ∨ k = 15 ∨ k = 16 ∨ k = 17 := by omega
  rcases this with rfl | rfl | rfl | rfl | rfl | rfl | rfl | rfl | rfl | rfl | rfl | rfl | rfl | rfl | rfl | rfl | rfl | rfl
  all_goals exact ⟨_, _, _, rfl, by kernel_rfl⟩

set_option maxHeartbeats 400000 in
theorem rscalar_any (r : Int) (w : World) : Calls Tryz.prog 111 #[.int .i64 r] w fun e w' => e = .returned (.bool (isSc r)) ∧ w = w' := by
  have key : (r < 0 ∧ isSc r = false) ∨ (0 ≤ r ∧ 1114111 < r ∧ isSc r = false) ∨ (0 ≤ r ∧ r ≤ 1114111 ∧ r < 55296 ∧ isSc r = true) ∨ (0 ≤ r ∧ r ≤ 1114111 ∧ 55296 ≤ r ∧ r ≤ 57343 ∧ isSc r = false) ∨ (0 ≤ r ∧ r ≤ 1114111 ∧ 55296 ≤ r ∧ 57343 < r ∧ isSc r = true) := by
    unfold isSc; simp only [decide_eq_true_iff, decide_eq_false_iff_not]; omega
  rcases key with ⟨h1, h⟩ | ⟨h1, h2, h⟩ | ⟨h1, h2, h3, h⟩ | ⟨h1, h2, h3, h4, h⟩ | ⟨h1, h2, h3, h4, h⟩
  all_goals
    have H := hide h
    clear h
    go_enter Tryz.func111, Tryz.ntmps111
    go_wp2
    go_ret
    exact ⟨ret_bool (by first | exact H.out.symm | (rw [H.out]; simp; omega)), rfl⟩

set_option maxHeartbeats 400000 in
theorem scalar_any (r : Int) (w : World) : Calls Tryz.prog 98 #[.int .i32 r] w fun e w' => e = .returned (.bool (isSc r)) ∧ w = w' := by
  have key : (r < 0 ∧ r < 55296 ∧ isSc r = false) ∨ (0 ≤ r ∧ 1114111 < r ∧ 55296 ≤ r ∧ 57343 < r ∧ isSc r = false) ∨ (0 ≤ r ∧ r ≤ 1114111 ∧ r < 55296 ∧ isSc r = true) ∨ (0 ≤ r ∧ r ≤ 1114111 ∧ 55296 ≤ r ∧ r ≤ 57343 ∧ isSc r = false) ∨ (0 ≤ r ∧ r ≤ 1114111 ∧ 55296 ≤ r ∧ 57343 < r ∧ isSc r = true) := by
    unfold isSc; simp only [decide_eq_true_iff, decide_eq_false_iff_not]; omega
  rcases key with ⟨h1, h2, h⟩ | ⟨h1, h2, h3, h4, h⟩ | ⟨h1, h2, h3, h⟩ | ⟨h1, h2, h3, h4, h⟩ | ⟨h1, h2, h3, h4, h⟩
  all_goals
    have H := hide h
    clear h
    go_enter Tryz.func98, Tryz.ntmps98
    go_wp2
    go_ret
    exact ⟨ret_bool (by first | exact H.out.symm | (rw [H.out]; simp; omega)), rfl⟩
end Go.Proofs.YtiifeniijcnahaaGreatDoor

namespace Go.Proofs.YtiifeniijcnahaaGreatDoor
set_option maxRecDepth 100000
open Go.ChangeShapes Go.WideShapes Go.ChangeAt Go.RowKit
set_option linter.unusedVariables false

theorem tab_at (k : Nat) (hk : k < 18) : ∃ f t d : Int, spans[k]? = some (f, t, d) ∧ ∀ w, (Instr.index 130 (.agg spanCells.toArray) (.int .i64 (k : Int))).run Tryz.prog w = .ok (.agg #[.int .i32 f, .int .i32 t, .int .i64 d]) w := by
  have e : k < spans.length := hk
  refine ⟨spans[k].1, spans[k].2.1, spans[k].2.2, List.getElem?_eq_getElem e, fun w => ?_⟩
  obtain ⟨f, t, d, h1, h2⟩ := tab_index w k hk
  rw [List.getElem?_eq_getElem e] at h1
  rw [Option.some.inj h1]
  exact h2
theorem wOf_nsc (r : Int) (h : isSc r = false) : wOf r = -1 := by
  unfold wOf; rw [if_pos]; exact .inr (.inr h)

theorem exec_tab (w : World) (hS : Spans w) (ρ : Operand → Value) (o : Oper) (ho : o.op = .load 130 (.global 0)) (hρ : ρ (.global 0) = .pointer (some ⟨0, 0, none⟩)) :
    (execOp ρ o).run Tryz.prog w = .ok (.value (.agg spanCells.toArray)) w := by
  unfold execOp
  simp only [ho, hρ, Instr.loadAt, Instr.sureAddr, Sem.run_bind, Sem.run_pure, Result.andThen_ok, run_loadVar_mid w 0 0 130 spanCells _ hS Tryz.underlying130 rfl (by rw [spanCells_len]; exact info130)]

set_option maxHeartbeats 1000000 in
theorem of_any (r : Int) (w : World) (hS : Spans w) : Calls Tryz.prog 69 #[.int .i32 r] w (Num .i64 (wOf r) w) := by
  by_cases hsc : isSc r = true
  · have HL := hide (look_wOf r hsc)
    go_enter Tryz.func69, Tryz.ntmps69
    go_wp2_with (first | (go_at_call 98; refine (scalar_any _ _).mono ?_; rintro e w' ⟨rfl, rfl⟩) | (with_reducible refine wpList_val (o := ⟨some 8, _, _, _, _, _⟩) rfl (v := .agg spanCells.toArray) ?_ ?_))
    · exact exec_tab w hS _ _ rfl rfl
    go_wp2
    clear hsc
    go_loopw [4, 9] (fun s i wr => ∃ k : Nat, k ≤ 18 ∧ i = .int .i64 k ∧ look r (spans.drop k) = wOf r ∧ Below w.heap.size w wr) (fun _ i _ => 18 - (intOf i).toNat)
    case atStart => exact ⟨0, Nat.zero_le _, rfl, HL.out, Below.refl _ _⟩
    case round =>
      obtain ⟨k, hk, rfl, hl, hbel⟩ := hrel
      have HK := hide hl
      clear hl
      by_cases hlt : k < 18
      · obtain ⟨f, t, d, he, hrun⟩ := tab_at k hlt
        have HD := hide (look_drop r k hlt f t d he)
        clear he
        by_cases c1 : f ≤ r
        · by_cases c2 : r ≤ t
          · have e : d = wOf r := by rw [← HK.out, HD.out, if_pos ⟨c1, c2⟩]
            have E := hide e
            clear e
            go_wp2
            go_ret
            exact ⟨ret_int E.out, hbel.alloc hbel.size _⟩
          · have HN : Hid (look r (spans.drop (k + 1)) = wOf r) := by unfold Hid; rw [← HK.out, HD.out, if_neg (fun h => c2 h.2)]
            go_wp2
            go_roundw
            case rel => exact ⟨k + 1, by omega, by go_num, HN.out, hbel.alloc hbel.size _⟩
            case measure => simp [intOf]; omega
        · have HN : Hid (look r (spans.drop (k + 1)) = wOf r) := by unfold Hid; rw [← HK.out, HD.out, if_neg (fun h => c1 h.1)]
          go_wp2
          go_roundw
          case rel => exact ⟨k + 1, by omega, by go_num, HN.out, hbel.alloc hbel.size _⟩
          case measure => simp [intOf]; omega
      · have e : wOf r = 1 := by rw [← HK.out, List.drop_eq_nil_of_le (by show spans.length ≤ k; have : spans.length = 18 := rfl; omega)]; rfl
        have E := hide e
        clear e
        go_wp2
        go_ret
        exact ⟨ret_int E.out.symm, hbel⟩
  · have hf : isSc r = false := by simpa using hsc
    have HW := hide (wOf_nsc r hf)
    clear hsc
    go_enter Tryz.func69, Tryz.ntmps69
    go_wp2_with (go_at_call 98; refine (scalar_any _ _).mono ?_; rintro e w' ⟨rfl, rfl⟩)
    go_ret
    exact ⟨ret_int HW.out.symm, Below.refl _ _⟩

/-! ### whether it is 2, 0, 1; without those that take no part -/
set_option maxHeartbeats 400000 in
set_option maxHeartbeats 400000 in
theorem mark_any (r : Int) (w : World) (hS : Spans w) : Calls Tryz.prog 106 #[.int .i32 r] w (Said (wOf r == 0) w) := by
  go_enter Tryz.func106, Tryz.ntmps106
  go_wp2_with fail
  refine (of_any r w hS).mono ?_
  rintro e w1 ⟨rfl, hb⟩
  go_wp2
  go_ret
  exact ⟨rfl, hb⟩
end Go.Proofs.YtiifeniijcnahaaGreatDoor

namespace Go.Proofs.YtiifeniijcnahaaGreatDoor
set_option maxRecDepth 100000
open Go.ChangeShapes Go.WideShapes Go.ChangeAt Go.RowKit
set_option linter.unusedVariables false

theorem inB_drop (r : Int) (l : List Int) (j : Nat) (x y : Int) (h : j + 1 < l.length) (hx : l.getD j 0 = x) (hy : l.getD (j + 1) 0 = y) :
    inB r (l.drop j) = ((decide (x ≤ r) && decide (r ≤ y)) || inB r (l.drop (j + 2))) := by
  rw [drop_at l j x (by omega) hx, drop_at l (j + 1) y h hy]; rfl

set_option maxHeartbeats 1000000 in
theorem in_any (r : Int) (A : Option Addr) (n c : Nat) (l : List Int) (w : World) (h : Ints .i64 w A l) (hl : l.length = n) (hm : n % 2 = 0) (hn : n ≤ 1000) :
    Calls Tryz.prog 110 #[.int .i64 r, .slice A n c] w (Said (inB r l) w) := by
  have HL := hide hl
  have HM := hide hm
  clear hl hm
  go_enter Tryz.func110, Tryz.ntmps110
  go_wp2
  go_loopw [5] (fun i wr => ∃ j : Nat, j ≤ n ∧ j % 2 = 0 ∧ i = .int .i64 j ∧ inB r (l.drop j) = inB r l ∧ w = wr) (fun i _ => n - (intOf i).toNat)
  case atStart => exact ⟨0, Nat.zero_le _, rfl, rfl, rfl, rfl⟩
  case round =>
    obtain ⟨j, hj, hj2, rfl, he, rfl⟩ := hrel
    have HE := hide he
    have hcase : (j + 1 < n) ∨ (n ≤ j) := by have := HM.out; omega
    clear he
    rcases hcase with hlt | hge
    · obtain ⟨b, off, rfl, hc, hb⟩ := h.at (i := j) (by rw [HL.out]; omega)
      obtain ⟨b2, off2, e2, hc2, hb2⟩ := h.at (i := j + 1) (by rw [HL.out]; omega)
      cases e2
      obtain ⟨x, hx⟩ : ∃ x, l.getD j 0 = x := ⟨_, rfl⟩
      obtain ⟨y, hy⟩ : ∃ y, l.getD (j + 1) 0 = y := ⟨_, rfl⟩
      have HD := hide (inB_drop r l j x y (by rw [HL.out]; omega) hx hy)
      rw [hx] at hc
      rw [hy] at hc2
      have HJ := hide hj2
      clear hx hy hj2
      by_cases c1 : x ≤ r
      · by_cases c2 : r ≤ y
        · have E : Hid (inB r l = true) := by unfold Hid; rw [← HE.out, HD.out]; simp [c1, c2]
          go_wp2
          go_ret
          exact ⟨ret_bool E.out.symm, Below.refl _ _⟩
        · have E : Hid (inB r (l.drop (j + 2)) = inB r l) := by unfold Hid; rw [← HE.out, HD.out]; simp [c2]
          go_wp2
          go_roundw
          case rel => exact ⟨j + 2, by omega, by have := HJ.out; omega, by go_num, E.out, by trivial⟩
          case measure => simp [intOf]; omega
      · have E : Hid (inB r (l.drop (j + 2)) = inB r l) := by unfold Hid; rw [← HE.out, HD.out]; simp [c1]
        go_wp2
        go_roundw
        case rel => exact ⟨j + 2, by omega, by have := HJ.out; omega, by go_num, E.out, by trivial⟩
        case measure => simp [intOf]; omega
    · have E : Hid (inB r l = false) := by unfold Hid; rw [← HE.out, List.drop_eq_nil_of_le (by rw [HL.out]; omega)]; rfl
      have hge1 : (n : Int) ≤ (j : Int) + 1 := by omega
      clear hj2
      go_wp2
      go_ret
      exact ⟨ret_bool E.out.symm, Below.refl _ _⟩

def ctl : List Int := [127, 159]
set_option maxHeartbeats 2000000 in
theorem rof_any (r : Int) (w : World) : Calls Tryz.prog 105 #[.int .i64 r] w (Num .i64 (wOf r) w) := by
  by_cases h0 : r < 32
  · have E : Hid (wOf r = -1) := wOf_no r (.inl h0)
    go_enter Tryz.func105, Tryz.ntmps105
    go_wp2
    go_ret
    exact ⟨ret_int E.out.symm, Below.refl _ _⟩
  have n1 : Ints .i64 (w.alloc (.cells #[.int .i64 127, .int .i64 159] 3)) (some ⟨w.heap.size, 0, none⟩) [127, 159] := Ints.new .i64 w 3 [127, 159]
  by_cases h1 : inB r [127, 159] = true
  · have E : Hid (wOf r = -1) := by unfold Hid wOf; rw [if_pos (.inr (.inl h1))]
    have H1 := hide h1
    clear h1
    go_enter Tryz.func105, Tryz.ntmps105
    go_wp2_with fail
    refine (in_any r _ 2 2 [127, 159] _ n1 rfl rfl (by omega)).mono ?_
    rintro e w1 ⟨rfl, hb1⟩
    rw [H1.out]
    go_wp2
    go_ret
    exact ⟨ret_int E.out.symm, ((Below.refl _ _).alloc (Nat.le_refl _) _).trans (hb1.mono (by simp))⟩
  have h1' : inB r [127, 159] = false := by simpa using h1
  have H1 := hide h1'
  by_cases h2 : isSc r = true
  case neg =>
    have h2' : isSc r = false := by simpa using h2
    have E : Hid (wOf r = -1) := by unfold Hid wOf; rw [if_pos (.inr (.inr h2'))]
    have H2 := hide h2'
    clear h1 h1' h2 h2'
    go_enter Tryz.func105, Tryz.ntmps105
    go_wp2_with fail
    refine (in_any r _ 2 2 [127, 159] _ n1 rfl rfl (by omega)).mono ?_
    rintro e w1 ⟨rfl, hb1⟩
    rw [H1.out]
    have bel1 : Below w.heap.size w w1 := ((Below.refl _ _).alloc (Nat.le_refl _) _).trans (hb1.mono (by simp))
    go_wp2_with fail
    refine (rscalar_any r w1).mono ?_
    rintro e w2 ⟨rfl, rfl⟩
    rw [H2.out]
    go_wp2
    go_ret
    exact ⟨ret_int E.out.symm, bel1⟩
  case pos =>
  have H2 := hide h2
  have hN : ¬ (r < 32 ∨ inB r [127, 159] = true ∨ isSc r = false) := by
    rintro (q | q | q)
    · exact h0 q
    · exact h1 q
    · rw [h2] at q; cases q
  have HN := hide hN
  clear hN h1 h1' h2
  by_cases h3 : inB r marks = true
  · have E : Hid (wOf r = 0) := by unfold Hid wOf; rw [if_neg HN.out, if_pos h3]
    have H3 := hide h3
    clear h3
    go_enter Tryz.func105, Tryz.ntmps105
    go_wp2_with fail
    refine (in_any r _ 2 2 [127, 159] _ n1 rfl rfl (by omega)).mono ?_
    rintro e w1 ⟨rfl, hb1⟩
    rw [H1.out]
    have bel1 : Below w.heap.size w w1 := ((Below.refl _ _).alloc (Nat.le_refl _) _).trans (hb1.mono (by simp))
    go_wp2_with fail
    refine (rscalar_any r w1).mono ?_
    rintro e w2 ⟨rfl, rfl⟩
    rw [H2.out]
    go_wp2_with fail
    refine (in_any r _ 10 10 marks _ (Ints.new .i64 w1 3 marks) rfl rfl (by omega)).mono ?_
    rintro e w2 ⟨rfl, hb2⟩
    rw [H3.out]
    go_wp2
    go_ret
    exact ⟨ret_int E.out.symm, (bel1.alloc bel1.size _).trans (hb2.mono (by have := bel1.size; simp; omega))⟩
  have h3' : inB r marks = false := by simpa using h3
  have H3 := hide h3'
  obtain ⟨v, hv, hvw⟩ : ∃ v : Bool, inB r wides = v ∧ wOf r = (if v = true then 2 else 1) := ⟨_, rfl, by unfold wOf; rw [if_neg HN.out, if_neg h3]⟩
  have HV := hide hv
  have HVW := hide hvw
  clear h3 h3' hv hvw
  go_enter Tryz.func105, Tryz.ntmps105
  go_wp2_with fail
  refine (in_any r _ 2 2 [127, 159] _ n1 rfl rfl (by omega)).mono ?_
  rintro e w1 ⟨rfl, hb1⟩
  rw [H1.out]
  have bel1 : Below w.heap.size w w1 := ((Below.refl _ _).alloc (Nat.le_refl _) _).trans (hb1.mono (by simp))
  go_wp2_with fail
  refine (rscalar_any r w1).mono ?_
  rintro e w2 ⟨rfl, rfl⟩
  rw [H2.out]
  go_wp2_with fail
  refine (in_any r _ 10 10 marks _ (Ints.new .i64 w1 3 marks) rfl rfl (by omega)).mono ?_
  rintro e w2 ⟨rfl, hb2⟩
  rw [H3.out]
  have bel2 : Below w.heap.size w w2 := (bel1.alloc bel1.size _).trans (hb2.mono (by have := bel1.size; simp; omega))
  go_wp2_with fail
  refine (in_any r _ 22 22 wides _ (Ints.new .i64 w2 3 wides) rfl rfl (by omega)).mono ?_
  rintro e w3 ⟨rfl, hb3⟩
  rw [HV.out]
  have bel3 : Below w.heap.size w w3 := (bel2.alloc bel2.size _).trans (hb3.mono (by have := bel2.size; simp; omega))
  cases v
  · go_wp2
    go_ret
    exact ⟨ret_int (by rw [HVW.out]; rfl), bel3⟩
  · go_wp2
    go_ret
    exact ⟨ret_int (by rw [HVW.out]; rfl), bel3⟩
end Go.Proofs.YtiifeniijcnahaaGreatDoor

namespace Go.Proofs.YtiifeniijcnahaaGreatDoor
set_option maxRecDepth 100000
open Go.ChangeShapes Go.WideShapes Go.ChangeAt Go.RowKit
set_option linter.unusedVariables false

def laid1 : List (String × DataW Unit) := [("prolepsis/width.spans", Rows.laid_prolepsis_width_spans)]
theorem gSpans : Tryz.prog.globalNamed "prolepsis/width.spans" = some 0 := by kernel_rfl
theorem tSpans : (Tryz.prog.globals[0]?).map (·.type) = some 130 := by kernel_rfl
theorem size129 : Tryz.prog.cellsOf 129 = 3 := by kernel_rfl
theorem sizeT21 : Tryz.prog.cellsOf 21 = 1 := by kernel_rfl
theorem sizeT3 : Tryz.prog.cellsOf 3 = 1 := by kernel_rfl

def spanData (s : Int × Int × Int) : DataW Unit := .agg [.lit (.int .i32 s.1), .lit (.int .i32 s.2.1), .lit (.int .i64 s.2.2)]
theorem laid_is : (Rows.laid_prolepsis_width_spans : DataW Unit) = .agg (spans.map spanData) := rfl

theorem flat3 (l : List (Int × Int × Int)) : ∀ (i d : Nat), d < 3 → (l.flatMap cellsOf3)[3 * i + d]? = (l[i]?).bind (fun s => (cellsOf3 s)[d]?) := by
  induction l with
  | nil => intro i d _; simp
  | cons s l ih =>
    intro i d hd
    have hl : (cellsOf3 s).length = 3 := rfl
    rw [List.flatMap_cons]
    cases i with
    | zero => rw [List.getElem?_append_left (by omega)]; simp
    | succ i =>
      rw [List.getElem?_append_right (by omega), hl, show 3 * (i + 1) + d - 3 = 3 * i + d by omega, ih i d hd]
      simp

theorem struct129 : ∃ f0 f1 f2 : Field, Tryz.prog.underlying 129 = some (.struct #[f0, f1, f2]) ∧ f0.type = 21 ∧ f1.type = 21 ∧ f2.type = 3 ∧ f0.offset = 0 ∧ f1.offset = 1 ∧ f2.offset = 2 := ⟨_, _, _, Tryz.underlying129, rfl, rfl, rfl, rfl, rfl, rfl⟩

theorem cells_of_span {W : World} {base : Nat} {sp : Nat → Bool} {held : Bool} {fuel : Nat} {cs : List Value} {enc : TypeId × Value → Unit} {s : Int × Int × Int} {q : List MemPlace}
    (h : DataW.trod enc Tryz.prog W base sp held fuel 129 cs = some (spanData s, q)) : cs = cellsOf3 s := by
  obtain ⟨f0, f1, f2, hu, e0, e1, e2, o0, o1, o2⟩ := struct129
  obtain ⟨y0, y1, y2, m, hx, hl, h0, h1, h2⟩ := Deep.trod_struct3 hu h
  rw [e0, o0, sizeT21] at h0
  rw [e1, o1, sizeT21] at h1
  rw [e2, o2, sizeT3] at h2
  rw [size129] at hl
  obtain ⟨n0, c0, r0, _⟩ := DataW.trod_int Tryz.underlying21 h0
  obtain ⟨n1, c1, r1, _⟩ := DataW.trod_int Tryz.underlying21 h1
  obtain ⟨n2, c2, r2, _⟩ := DataW.trod_int Tryz.underlying3 h2
  subst r0 r1 r2
  obtain ⟨s1, s2, s3⟩ := s
  simp [spanData] at hx
  obtain ⟨⟨rfl, rfl, rfl⟩, _⟩ := hx
  match cs, hl with
  | [a, b, c], _ =>
    simp at c0 c1 c2
    subst c0 c1 c2
    rfl

/-- The table lies where the walks want it. -/
theorem of_laid {W : World} (h : laidMetH Tryz.prog laid1 W) : Spans W := by
  rw [MakeChecks.laidMetH_plain _ _ _ (by kernel_rfl)] at h
  obtain ⟨ps, ⟨g0, t0, cs0, f0, p0, q0, hg0, ht0, hv0, hd0, _, _⟩, _, _⟩ := h
  obtain rfl := Option.some.inj (gSpans.symm.trans hg0)
  obtain rfl := Option.some.inj (tSpans.symm.trans ht0)
  rw [laid_is] at hd0
  obtain ⟨xs, m, rfl, hx, hlen, hn, hel⟩ := DataW.trod_array Tryz.underlying130 hd0
  simp only [Prod.mk.injEq, DataW.agg.injEq] at hx
  intro j v hv
  have hj : j = 3 * (j / 3) + j % 3 := by omega
  have hd3 : j % 3 < 3 := by omega
  generalize j / 3 = i at hj
  generalize j % 3 = d at hj hd3
  subst hj
  unfold spanCells at hv
  rw [flat3 spans i d hd3] at hv
  cases hs : spans[i]? with
  | none => rw [hs] at hv; cases hv
  | some s =>
    rw [hs] at hv
    have hi : i < 18 := (List.getElem?_eq_some_iff.1 hs).1
    have he := hel i hi
    cases hxi : xs[i]? with
    | none => have := List.getElem?_eq_none_iff.1 hxi; omega
    | some x =>
      rw [hxi, size129] at he
      have h1 : (xs.map (·.1))[i]? = some x.1 := by rw [List.getElem?_map, hxi]; rfl
      rw [← hx.1, List.getElem?_map, hs] at h1
      have h2 : spanData s = x.1 := by simpa using h1
      obtain ⟨x1, x2⟩ := x
      simp only at h2
      subst h2
      have hc := cells_of_span he
      have hcd : (cellsOf3 s)[d]? = some v := hv
      rw [← hc, List.getElem?_take, if_pos hd3, List.getElem?_drop] at hcd
      have := World.var?_cell hg0 hv0 (i * 3 + d)
      rw [Nat.zero_add, show 3 * i + d = i * 3 + d by omega, this, ← Array.getElem?_toList]
      exact hcd

/-- The door's own heap meets the condition: three closed facts. -/
theorem door_met (os : Os) (args : Array Value) : laidMetH Tryz.prog laid1 ((World.doorLaid Tryz.prog 400 os).forCall (fun _ _ => 0) ⟨#[], args, []⟩).memory :=
  laidMetH_of_parts3 (fuel := 8) (laidMet_of_run' 8 (by kernel_rfl) (by kernel_rfl)) (by kernel_rfl) (by kernel_rfl)
end Go.Proofs.YtiifeniijcnahaaGreatDoor
