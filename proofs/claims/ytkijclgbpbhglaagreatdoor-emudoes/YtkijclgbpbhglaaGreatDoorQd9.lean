/-
  Contracts and plain mathematics of PMath, NMath, EMath.
-/
import Derived.Test.YtkijclgbpbhglaaGreatDoorQd8
import Derived.Test.YtkijclgbpbhglaaGreatDoorQd1
import Derived.Test.YtkijclgbpbhglaaGreatDoorQd7
import Derived.Test.YtkijclgbpbhglaaGreatDoorQd3
import Derived.Test.YtkijclgbpbhglaaGreatDoorQd5
import Derived.Lib.SmallJoins
import Derived.Deep.Strs
import Derived.OpenShut
import Derived.Deep.Slices
namespace Go.Proofs.YtkijclgbpbhglaaGreatDoor
set_option maxRecDepth 100000
set_option linter.unusedVariables false
set_option maxHeartbeats 8000000
structure Ev where
 k : Int
 r : Int
 n : List Int
structure Ps where
 st : Int
 n : List Int
 h : List Int
def p0 : Ps := ⟨0, [], []⟩
def brkE (h : List Int) : List Ev := if h = [] then [] else [⟨1, 65533, []⟩]
def prE (l : List Int) : List Ev := l.map fun r => ⟨1, r, []⟩
def digV (x d : Int) : Int := if 10 * (if x < 0 then 0 else x) + d > 9999 then 9999 else 10 * (if x < 0 then 0 else x) + d
def digN (n : List Int) (d : Int) : List Int := if n = [] then [d] else n.take (n.length - 1) ++ [digV (n.getD (n.length - 1) 0) d]
def semiN (n : List Int) : List Int := if n = [] then [-1, -1] else n ++ [-1]
def bbetN (b : Int) : Int := if b ≤ 47 then 2 else 0
def bescN (b : Int) : Int := if b = 91 then 3 else bbetN b
def finB (b : Int) : Bool := decide (64 ≤ b ∧ b ≤ 126)
def stepP (p : Ps) (b : Int) : Ps × List Ev :=
 if b = 24 ∨ b = 26 then (⟨0, p.n, []⟩, brkE p.h ++ [⟨2, b, []⟩])
 else if b = 27 then (⟨1, [], []⟩, brkE p.h)
 else if b < 32 ∨ b = 127 then (⟨p.st, p.n, []⟩, brkE p.h ++ [⟨2, b, []⟩])
 else if 128 ≤ b ∨ p.st = 0 then (⟨0, p.n, (cut (p.h ++ [b])).2⟩, prE (cut (p.h ++ [b])).1)
 else if p.st = 1 then (⟨bescN b, p.n, p.h⟩, [])
 else if p.st = 2 then (⟨bbetN b, p.n, p.h⟩, [])
 else if p.st = 3 then
  if 48 ≤ b ∧ b ≤ 57 then (⟨3, digN p.n (b - 48), p.h⟩, [])
  else if b = 59 then (⟨3, semiN p.n, p.h⟩, [])
  else if 64 ≤ b then (⟨0, p.n, p.h⟩, [⟨3, b, p.n.take 8⟩])
  else (⟨4, p.n, p.h⟩, [])
 else (⟨if 64 ≤ b then 0 else p.st, p.n, p.h⟩, [])
section
variable {p : Ps} {b : Int}
theorem step_cancel (h : b = 24 ∨ b = 26) : stepP p b = (⟨0, p.n, []⟩, brkE p.h ++ [⟨2, b, []⟩]) := by unfold stepP; rw [if_pos h]
theorem step_esc (h : b = 27) : stepP p b = (⟨1, [], []⟩, brkE p.h) := by unfold stepP; rw [if_neg (by omega), if_pos h]
theorem step_ctl (h1 : ¬ b = 24) (h2 : ¬ b = 26) (h3 : ¬ b = 27) (h : b < 32 ∨ b = 127) : stepP p b = (⟨p.st, p.n, []⟩, brkE p.h ++ [⟨2, b, []⟩]) := by
 unfold stepP; rw [if_neg (by omega), if_neg h3, if_pos h]
theorem step_take (h1 : 32 ≤ b) (h2 : ¬ b = 127) (h : 128 ≤ b ∨ p.st = 0) : stepP p b = (⟨0, p.n, (cut (p.h ++ [b])).2⟩, prE (cut (p.h ++ [b])).1) := by
 unfold stepP; rw [if_neg (by omega), if_neg (by omega), if_neg (by omega), if_pos h]
theorem step_s1 (h1 : 32 ≤ b) (h2 : b < 127) (h : p.st = 1) : stepP p b = (⟨bescN b, p.n, p.h⟩, []) := by
 unfold stepP; rw [if_neg (by omega), if_neg (by omega), if_neg (by omega), if_neg (by omega), if_pos h]
theorem step_s2 (h1 : 32 ≤ b) (h2 : b < 127) (h : p.st = 2) : stepP p b = (⟨bbetN b, p.n, p.h⟩, []) := by
 unfold stepP; rw [if_neg (by omega), if_neg (by omega), if_neg (by omega), if_neg (by omega), if_neg (by omega), if_pos h]
theorem step_dig (h1 : 48 ≤ b) (h2 : b ≤ 57) (h : p.st = 3) : stepP p b = (⟨3, digN p.n (b - 48), p.h⟩, []) := by
 unfold stepP; rw [if_neg (by omega), if_neg (by omega), if_neg (by omega), if_neg (by omega), if_neg (by omega), if_neg (by omega), if_pos h, if_pos ⟨h1, h2⟩]
theorem step_semi (h1 : b = 59) (h : p.st = 3) : stepP p b = (⟨3, semiN p.n, p.h⟩, []) := by
 unfold stepP; rw [if_neg (by omega), if_neg (by omega), if_neg (by omega), if_neg (by omega), if_neg (by omega), if_neg (by omega), if_pos h, if_neg (by omega), if_pos h1]
theorem step_fin (h1 : 64 ≤ b) (h2 : b < 127) (h : p.st = 3) : stepP p b = (⟨0, p.n, p.h⟩, [⟨3, b, p.n.take 8⟩]) := by
 unfold stepP; rw [if_neg (by omega), if_neg (by omega), if_neg (by omega), if_neg (by omega), if_neg (by omega), if_neg (by omega), if_pos h, if_neg (by omega), if_neg (by omega), if_pos h1]
theorem step_idle (h1 : 32 ≤ b) (h2 : b < 64) (h3 : b < 48 ∨ 57 < b) (h4 : ¬ b = 59) (h : p.st = 3) : stepP p b = (⟨4, p.n, p.h⟩, []) := by
 unfold stepP; rw [if_neg (by omega), if_neg (by omega), if_neg (by omega), if_neg (by omega), if_neg (by omega), if_neg (by omega), if_pos h, if_neg (by omega), if_neg (by omega), if_neg (by omega)]
theorem step_s4 (h1 : 32 ≤ b) (h2 : b < 127) (h : p.st = 4) : stepP p b = (⟨if 64 ≤ b then 0 else 4, p.n, p.h⟩, []) := by
 unfold stepP; rw [if_neg (by omega), if_neg (by omega), if_neg (by omega), if_neg (by omega), if_neg (by omega), if_neg (by omega), if_neg (by omega), h]
end
def NumOk (n : List Int) : Prop := ∀ x ∈ n, -1 ≤ x ∧ x ≤ 9999
structure PsOk (p : Ps) : Prop where
 held : (first p.h).2 = 0
 byte : Byte p.h
 st0 : 0 ≤ p.st
 st4 : p.st ≤ 4
 num : NumOk p.n
theorem ok0 : PsOk p0 := ⟨rfl, (by intro x hx; simp [p0] at hx), by simp [p0], by simp [p0], by intro x hx; simp [p0] at hx⟩
theorem PsOk.len {p : Ps} (h : PsOk p) : p.h.length ≤ 3 := first_held_len _ h.held
theorem dig_range (x d : Int) (h0 : 0 ≤ d) (hx : x ≤ 9999) : -1 ≤ digV x d ∧ digV x d ≤ 9999 := by unfold digV; split <;> split at * <;> omega
theorem NumOk.dig {n : List Int} (h : NumOk n) (d : Int) (h0 : 0 ≤ d) (h9 : d ≤ 9) : NumOk (digN n d) := by
 unfold digN
 split
 ·intro x hx; simp at hx; omega
 ·rename_i hn
  intro x hx
  rcases List.mem_append.1 hx with q | q
  ·exact h x (List.mem_of_mem_take q)
  ·simp only [List.mem_singleton] at q
   subst q
   have hm : n.getD (n.length - 1) 0 ∈ n := getD_mem n _ (by have := List.length_pos_iff.2 hn; omega)
   exact dig_range _ d h0 (h _ hm).2
theorem NumOk.semi {n : List Int} (h : NumOk n) : NumOk (semiN n) := by
 unfold semiN
 split
 ·intro x hx; simp at hx; omega
 ·intro x hx
  rcases List.mem_append.1 hx with q | q
  ·exact h x q
  ·simp at q; omega
theorem dig_len (n : List Int) (d : Int) : (digN n d).length ≤ n.length + 1 := by
 unfold digN; split
 ·simp
 ·rename_i h; have := List.length_pos_iff.2 h; simp <;> omega
theorem semi_len (n : List Int) : (semiN n).length ≤ n.length + 2 := by
 unfold semiN; split <;> simp
theorem brk_len (h : List Int) : (brkE h).length ≤ 1 := by unfold brkE; split <;> simp
theorem step_ok (p : Ps) (b : Int) (h : PsOk p) (h0 : 0 ≤ b) (h1 : b ≤ 255) : PsOk (stepP p b).1 := by
 have hb : Byte (p.h ++ [b]) := h.byte.append (by intro x hx; simp at hx; omega)
 have nil : (first ([] : List Int)).2 = 0 := rfl
 have nilb : Byte ([] : List Int) := by intro x hx; simp at hx
 have niln : NumOk ([] : List Int) := by intro x hx; simp at hx
 unfold stepP
 have a0 := h.st0
 have a4 := h.st4
 have b1 : 0 ≤ bbetN b ∧ bbetN b ≤ 4 := by unfold bbetN; split <;> omega
 have b2 : 0 ≤ bescN b ∧ bescN b ≤ 4 := by unfold bescN; split <;> omega
 repeat' split
 all_goals first
  | (refine ⟨nil, nilb, ?_, ?_, h.num⟩ <;> dsimp only <;> omega)
  | (refine ⟨nil, nilb, ?_, ?_, niln⟩ <;> dsimp only <;> omega)
  | (refine ⟨cut_rest _, cut_byte _ hb, ?_, ?_, h.num⟩ <;> dsimp only <;> omega)
  | (refine ⟨h.held, h.byte, ?_, ?_, h.num⟩ <;> dsimp only <;> omega)
  | (refine ⟨h.held, h.byte, ?_, ?_, h.num.dig _ (by omega) (by omega)⟩ <;> dsimp only <;> omega)
  | (refine ⟨h.held, h.byte, ?_, ?_, h.num.semi⟩ <;> dsimp only <;> omega)
theorem step_n (p : Ps) (b : Int) : (stepP p b).1.n.length ≤ p.n.length + 2 := by
 have := dig_len p.n (b - 48)
 have := semi_len p.n
 unfold stepP
 repeat' split
 all_goals (dsimp only; first | omega | simp)
theorem step_e (p : Ps) (b : Int) (h : PsOk p) : (stepP p b).2.length ≤ 4 := by
 have := brk_len p.h
 have := cut_len (p.h ++ [b])
 have := h.len
 unfold stepP
 repeat' split
 all_goals (simp only [List.length_append, List.length_cons, List.length_nil, prE, List.length_map] at *; omega)
def feedP (p : Ps) : List Int → Ps × List Ev
 | [] => (p, [])
 | b :: bs => ((feedP (stepP p b).1 bs).1, (stepP p b).2 ++ (feedP (stepP p b).1 bs).2)
theorem feed_append (x y : List Int) : ∀ p, feedP p (x ++ y) = ((feedP (feedP p x).1 y).1, (feedP p x).2 ++ (feedP (feedP p x).1 y).2) := by
 induction x with
 | nil => intro p; simp [feedP]
 | cons b x ih => intro p; simp [feedP, ih]
theorem feed_snoc (p : Ps) (x : List Int) (b : Int) : feedP p (x ++ [b]) = ((stepP (feedP p x).1 b).1, (feedP p x).2 ++ (stepP (feedP p x).1 b).2) := by
 rw [feed_append]; simp [feedP]
theorem feed_facts (bs : List Int) : ∀ p, PsOk p → Byte bs → PsOk (feedP p bs).1 ∧ (feedP p bs).1.n.length ≤ p.n.length + 2 * bs.length ∧ (feedP p bs).2.length ≤ 4 * bs.length := by
 induction bs with
 | nil => intro p h _; exact ⟨h, by simp [feedP], by simp [feedP]⟩
 | cons b bs ih =>
  intro p h hb
  have hb0 := hb b (by simp)
  obtain ⟨q1, q2, q3⟩ := ih (stepP p b).1 (step_ok p b h hb0.1 hb0.2) (fun x hx => hb x (by simp [hx]))
  have := step_n p b
  have := step_e p b h
  refine ⟨q1, ?_, ?_⟩
  ·simp only [feedP, List.length_cons]; omega
  ·simp only [feedP, List.length_append, List.length_cons]; omega
def restP (p : Ps) : Bool := decide (p.st = 0) && decide (p.h = [])
def EvB (e : Ev) : Prop := -2147483648 ≤ e.r ∧ e.r ≤ 2147483647 ∧ e.n.length ≤ 9223372036854775807
theorem step_b (p : Ps) (b : Int) (h : PsOk p) (h0 : 0 ≤ b) (h1 : b ≤ 255) : ∀ e ∈ (stepP p b).2, EvB e := by
 have hb : Byte (p.h ++ [b]) := h.byte.append (by intro x hx; simp at hx; omega)
 have hbrk : ∀ e ∈ brkE p.h, EvB e := by
  intro e he; unfold brkE at he; split at he
  ·simp at he
  ·simp at he; subst he; exact ⟨by decide, by decide, by simp⟩
 have hone : ∀ e ∈ brkE p.h ++ [⟨2, b, []⟩], EvB e := by
  intro e he
  rcases List.mem_append.1 he with q | q
  ·exact hbrk e q
  ·simp at q; subst q; exact ⟨by show -2147483648 ≤ b; omega, by show b ≤ 2147483647; omega, by simp⟩
 unfold stepP
 repeat' split
 all_goals first
  | exact hone
  | exact hbrk
  | (intro e he; simp at he; done)
  | (intro e he; simp at he; subst he; exact ⟨by show -2147483648 ≤ b; omega, by show b ≤ 2147483647; omega, by show (p.n.take 8).length ≤ _; rw [List.length_take]; omega⟩)
  | (intro e he; simp only [prE, List.mem_map] at he; obtain ⟨r, hr, rfl⟩ := he; have := (isSc_iff r).1 (cut_sc _ hb r hr); exact ⟨by show -2147483648 ≤ r; omega, by show r ≤ 2147483647; omega, by simp⟩)
theorem feed_b (bs : List Int) : ∀ p, PsOk p → Byte bs → ∀ e ∈ (feedP p bs).2, EvB e := by
 induction bs with
 | nil => intro p _ _ e he; simp [feedP] at he
 | cons b bs ih =>
  intro p h hb e he
  have hb0 := hb b (by simp)
  simp only [feedP] at he
  rcases List.mem_append.1 he with q | q
  ·exact step_b p b h hb0.1 hb0.2 e q
  ·exact ih _ (step_ok p b h hb0.1 hb0.2) (fun x hx => hb x (by simp [hx])) e q
structure Args (l n : List Int) : Prop where
 len : l.length = 9
 num : NumOk l
 eq : l.take (min n.length 8) = n.take 8
theorem NumOk.set {l : List Int} (h : NumOk l) (i : Nat) (x : Int) (h0 : -1 ≤ x) (h1 : x ≤ 9999) : NumOk (l.set i x) := by
 intro y hy
 rcases List.mem_or_eq_of_mem_set hy with q | q
 ·exact h y q
 ·subst q; exact ⟨h0, h1⟩
theorem Args.nil {l n : List Int} (h : Args l n) : Args l [] := ⟨h.len, h.num, by simp⟩
theorem take_set_eq (l : List Int) (i : Nat) (x : Int) (h : i < l.length) : (l.set i x).take (i + 1) = l.take i ++ [x] := by
 rw [List.take_succ_eq_append_getElem (by simpa using h), List.take_set_of_le (Nat.le_refl _)]
 simp
theorem Args.begin {l n : List Int} (h : Args l n) : Args (l.set (min n.length 8) (-1)) (n ++ [-1]) := by
 have hl := h.len
 refine ⟨by simpa using hl, h.num.set _ _ (by omega) (by omega), ?_⟩
 rw [List.length_append]
 simp only [List.length_cons, List.length_nil]
 by_cases c : n.length < 8
 ·have e := h.eq
  rw [Nat.min_eq_left (by omega), List.take_of_length_le (l := n) (by omega)] at e
  rw [Nat.min_eq_left (by omega), Nat.min_eq_left (by omega), take_set_eq l _ _ (by omega), e, List.take_of_length_le (by simp; omega)]
 ·have e := h.eq
  rw [Nat.min_eq_right (by omega)] at e
  rw [Nat.min_eq_right (by omega), Nat.min_eq_right (by omega), List.take_set_of_le (Nat.le_refl _), e, List.take_append_of_le_length (by omega)]
theorem Args.last {l n : List Int} (h : Args l n) (hn : n ≠ []) (hs : n.length ≤ 8) : l.getD (n.length - 1) 0 = n.getD (n.length - 1) 0 := by
 have hp := List.length_pos_iff.2 hn
 have e := h.eq
 rw [Nat.min_eq_left hs, List.take_of_length_le (l := n) (by omega)] at e
 conv => rhs; rw [← e]
 simp only [List.getD_eq_getElem?_getD, List.getElem?_take]
 rw [if_pos (by simp; have := h.len; omega)]
 congr 2
 rw [List.length_take, h.len]; omega
theorem Args.digit {l n : List Int} (h : Args l n) (hn : n ≠ []) (d : Int) (h0 : 0 ≤ d) (h9 : d ≤ 9) : Args (l.set (min n.length 9 - 1) (digV (l.getD (min n.length 9 - 1) 0) d)) (digN n d) := by
 have hp := List.length_pos_iff.2 hn
 have hl := h.len
 have hx : l.getD (min n.length 9 - 1) 0 ∈ l := getD_mem l _ (by omega)
 have hr := dig_range (l.getD (min n.length 9 - 1) 0) d h0 (h.num _ hx).2
 refine ⟨by simpa using hl, h.num.set _ _ hr.1 hr.2, ?_⟩
 have hlen : (digN n d).length = n.length := by unfold digN; rw [if_neg hn]; simp; omega
 rw [hlen]
 by_cases c : n.length ≤ 8
 ·have e := h.eq
  have hla := h.last hn c
  rw [Nat.min_eq_left c, List.take_of_length_le (l := n) (by omega)] at e
  rw [Nat.min_eq_left (by omega : n.length ≤ 9), Nat.min_eq_left c, hla]
  have e2 := take_set_eq l (n.length - 1) (digV (n.getD (n.length - 1) 0) d) (by omega)
  rw [show n.length - 1 + 1 = n.length by omega] at e2
  rw [e2, List.take_of_length_le (l := digN n d) (by rw [hlen]; omega)]
  unfold digN
  rw [if_neg hn]
  congr 1
  have e3 : (l.take n.length).take (n.length - 1) = n.take (n.length - 1) := by rw [e]
  rw [List.take_take, Nat.min_eq_left (by omega)] at e3
  exact e3
 ·have e := h.eq
  rw [Nat.min_eq_right (by omega)] at e
  rw [Nat.min_eq_right (by omega : 9 ≤ n.length), Nat.min_eq_right (by omega), List.take_set_of_le (by omega), e]
  unfold digN
  rw [if_neg hn, List.take_append_of_le_length (by simp; omega), List.take_take, Nat.min_eq_left (by omega)]
theorem dig_begin (d : Int) (h0 : 0 ≤ d) (h9 : d ≤ 9) : digN ([] ++ [-1]) d = digN [] d := by
 simp [digN, digV]; omega
theorem Args.told {l n : List Int} (h : Args l n) : l.take (min (min n.length 9) 8) = n.take 8 := by rw [← h.eq]; congr 1; omega
def withN (f g : Nat) (on : Bool) : Nat := if on then f ||| g else f &&& (255 - g)
theorem withN_lt (f g : Nat) (on : Bool) (hf : f < 256) (hg : g < 256) : withN f g on < 256 := by
 unfold withN
 split
 ·exact Nat.or_lt_two_pow (n := 8) hf hg
 ·exact Nat.and_lt_two_pow (n := 8) _ (by omega)
def Pn.ok (p : Pn) : Prop := p.f < 256 ∧ p.g < 256 ∧ p.b < 256
def flagN (f : Nat) (n : Int) : Nat :=
 if n = 0 then 0 else if n = 1 then withN f 1 true else if n = 2 then withN f 2 true else if n = 4 then withN f 4 true else if n = 5 then withN f 8 true else if n = 7 then withN f 16 true
 else if n = 22 then withN f 3 false else if n = 24 then withN f 4 false else if n = 25 then withN f 8 false else if n = 27 then withN f 16 false else f
def dyeN (g : Nat) (n : Int) : Nat :=
 if 30 ≤ n ∧ n ≤ 37 then (n - 29).toNat else if 90 ≤ n ∧ n ≤ 97 then (n - 81).toNat else if n = 39 then 0 else g
def onceN (p : Pn) (n : Int) : Pn := if n = 0 then zeroP else ⟨flagN p.f n, dyeN p.g n, dyeN p.b (n - 10)⟩
def turnN (p : Pn) (l : List Int) : Pn := if l.isEmpty then zeroP else l.foldl onceN p
theorem flagN_lt (f : Nat) (n : Int) (hf : f < 256) : flagN f n < 256 := by
 unfold flagN
 repeat' split
 all_goals first
  | omega
  | (apply withN_lt <;> omega)
theorem dyeN_lt (g : Nat) (n : Int) (hg : g < 256) : dyeN g n < 256 := by
 unfold dyeN
 repeat' split
 all_goals omega
theorem onceN_ok (p : Pn) (n : Int) (h : p.ok) : (onceN p n).ok := by
 unfold onceN
 split
 ·exact ⟨by decide, by decide, by decide⟩
 ·exact ⟨flagN_lt _ _ h.1, dyeN_lt _ _ h.2.1, dyeN_lt _ _ h.2.2⟩
theorem foldN_ok (l : List Int) : ∀ p : Pn, p.ok → (l.foldl onceN p).ok := by
 induction l with
 | nil => exact fun p h => h
 | cons n l ih => exact fun p h => ih _ (onceN_ok p n h)
theorem withN_le (f g : Nat) (on : Bool) (hf : f ≤ 31) (hg : g ≤ 31) : withN f g on ≤ 31 := by
 unfold withN
 split
 ·have := Nat.or_lt_two_pow (n := 5) (show f < 2 ^ 5 by omega) (show g < 2 ^ 5 by omega)
  omega
 ·have : f &&& (255 - g) ≤ f := Nat.and_le_left
  omega
theorem onceN_right (p : Pn) (n : Int) (h : rightN p = true) : rightN (onceN p n) = true := by
 unfold rightN at h ⊢
 simp only [Bool.and_eq_true, decide_eq_true_eq] at h ⊢
 obtain ⟨h1, h2, h3⟩ := h
 unfold onceN
 split
 ·exact ⟨by decide, by decide, by decide⟩
 ·refine ⟨?_, ?_, ?_⟩
  ·show flagN p.f n ≤ 31
   unfold flagN
   repeat' split
   all_goals first
    | omega
    | (apply withN_le <;> omega)
  ·show dyeN p.g n ≤ 16
   unfold dyeN
   repeat' split
   all_goals omega
  ·show dyeN p.b (n - 10) ≤ 16
   unfold dyeN
   repeat' split
   all_goals omega
theorem foldN_right (l : List Int) : ∀ p : Pn, rightN p = true → rightN (l.foldl onceN p) = true := by
 induction l with
 | nil => exact fun p h => h
 | cons n l ih => exact fun p h => ih _ (onceN_right p n h)
theorem turnN_right (p : Pn) (l : List Int) (h : rightN p = true) : rightN (turnN p l) = true := by
 unfold turnN
 split
 ·decide
 ·exact foldN_right l p h
def onC (i : Nat) : Int := [1, 2, 4, 5, 7].getD i 0
def offC (i : Nat) : Int := [22, 22, 24, 25, 27].getD i 0
def bitC (i : Nat) : Nat := [1, 2, 4, 8, 16].getD i 0
def hasN (x b : Nat) : Bool := decide (x / b % 2 = 1)
def addF (n : Int) (i x : Nat) : Nat := if n = onC i ∧ hasN x (bitC i) = false then x + bitC i else x
def subF (n : Int) (i x : Nat) : Nat := if n = offC i ∧ hasN x (bitC i) = true then x - bitC i else x
def flagK (n : Int) (f : Nat) : Nat → Nat
 | 0 => f
 | k + 1 => subF n k (addF n k (flagK n f k))
theorem addF_lt (n : Int) (i x : Nat) (hi : i < 5) (h : x < 256) : addF n i x < 256 := by
 unfold addF hasN
 split
 ·rename_i h1
  have h2 := h1.2
  simp only [decide_eq_false_iff_not] at h2
  match i, hi with
  | 0, _ => simp [bitC] at h2 ⊢; omega
  | 1, _ => simp [bitC] at h2 ⊢; omega
  | 2, _ => simp [bitC] at h2 ⊢; omega
  | 3, _ => simp [bitC] at h2 ⊢; omega
  | 4, _ => simp [bitC] at h2 ⊢; omega
 ·exact h
theorem subF_lt (n : Int) (i x : Nat) (h : x < 256) : subF n i x < 256 := by
 unfold subF
 split <;> omega
theorem flagK_lt (n : Int) (f : Nat) (h : f < 256) : ∀ k, k ≤ 5 → flagK n f k < 256 := by
 intro k
 induction k with
 | zero => exact fun _ => h
 | succ k ih => exact fun hk => subF_lt n k _ (addF_lt n k _ (by omega) (ih (by omega)))
theorem flagK_other (n : Int) (f : Nat) (h : ∀ i, i < 5 → n ≠ onC i ∧ n ≠ offC i) : ∀ k, k ≤ 5 → flagK n f k = f := by
 intro k
 induction k with
 | zero => exact fun _ => rfl
 | succ k ih =>
  intro hk
  have := h k (by omega)
  simp [flagK, ih (by omega), addF, subF, this.1, this.2]
theorem flagK_all (n : Int) (f : Nat) (hf : f < 256) (h0 : n = 0 → f = 0) : flagK n f 5 = flagN f n := by
 by_cases h1 : n = 1
 ·subst h1; revert f; decide +kernel
 by_cases h2 : n = 2
 ·subst h2; revert f; decide +kernel
 by_cases h4 : n = 4
 ·subst h4; revert f; decide +kernel
 by_cases h5 : n = 5
 ·subst h5; revert f; decide +kernel
 by_cases h7 : n = 7
 ·subst h7; revert f; decide +kernel
 by_cases h22 : n = 22
 ·subst h22; revert f; decide +kernel
 by_cases h24 : n = 24
 ·subst h24; revert f; decide +kernel
 by_cases h25 : n = 25
 ·subst h25; revert f; decide +kernel
 by_cases h27 : n = 27
 ·subst h27; revert f; decide +kernel
 rw [flagK_other n f ?_ 5 (Nat.le_refl _)]
 ·unfold flagN
  split
  ·rename_i h; exact h0 h
  ·simp only []
 ·intro i hi
  match i, hi with
  | 0, _ => exact ⟨h1, h22⟩
  | 1, _ => exact ⟨h2, h22⟩
  | 2, _ => exact ⟨h4, h24⟩
  | 3, _ => exact ⟨h5, h25⟩
  | 4, _ => exact ⟨h7, h27⟩
def dyeK (g : Nat) (n : Int) (k : Nat) : Nat :=
 if 30 ≤ n ∧ n < 30 + k then (n - 29).toNat else if 90 ≤ n ∧ n < 90 + k then (n - 81).toNat else g
theorem dyeK_zero (g : Nat) (n : Int) : dyeK g n 0 = g := by
 unfold dyeK; rw [if_neg (by omega), if_neg (by omega)]
theorem dyeK_lo (g : Nat) (n : Int) (k : Nat) (hk : k < 8) (h : n = 30 + k) : dyeK g n (k + 1) = 1 + k := by
 unfold dyeK; rw [if_pos (by omega)]; omega
theorem dyeK_hi (g : Nat) (n : Int) (k : Nat) (hk : k < 8) (h : n = 90 + k) : dyeK g n (k + 1) = 9 + k := by
 unfold dyeK; rw [if_neg (by omega), if_pos (by omega)]; omega
theorem dyeK_no (g : Nat) (n : Int) (k : Nat) (h : n ≠ 30 + k) (h2 : n ≠ 90 + k) : dyeK g n (k + 1) = dyeK g n k := by
 unfold dyeK
 by_cases h3 : 30 ≤ n ∧ n < 30 + (k : Int)
 ·rw [if_pos (by omega), if_pos h3]
 ·rw [if_neg (by omega), if_neg h3]
  by_cases h4 : 90 ≤ n ∧ n < 90 + (k : Int)
  ·rw [if_pos (by omega), if_pos h4]
  ·rw [if_neg (by omega), if_neg h4]
theorem dyeK_all (g : Nat) (n : Int) : (if n = 39 then 0 else dyeK g n 8) = dyeN g n := by
 unfold dyeK dyeN
 repeat' split
 all_goals omega
structure Em where
 g : Gd
 p : Ps
 pen : Pn
 wrap : Bool
def newE (R C : Nat) : Em := ⟨newG R C, p0, zeroP, false⟩
def blankP (p : Pn) : Pn := ⟨0, 0, p.b⟩
def feedG (g : Gd) (C : Nat) (bp : Pn) : Gd := if g.row + 1 = g.ls.length then scrollG g C 1 bp else { g with row := g.row + 1 }
def readyG (e : Em) (C : Nat) (n : Int) : Gd := if e.wrap = true ∨ (C : Int) - (e.g.col : Int) < n then feedG { e.g with col := 0 } C (blankP e.pen) else e.g
def typedE (e : Em) (C : Nat) (r : Int) : Em :=
 if wOf r = 0 then { e with g := markG e.g e.g.row (if e.wrap = true then (e.g.col : Int) else (e.g.col : Int) - 1) r }
 else if wOf r < 1 ∨ (C : Int) < wOf r then e
 else if (C : Int) ≤ ((readyG e C (wOf r)).col : Int) + wOf r then { e with g := { putG (readyG e C (wOf r)) (readyG e C (wOf r)).row (readyG e C (wOf r)).col (ofC r e.pen).1 with col := C - 1 }, wrap := true }
 else { e with g := { putG (readyG e C (wOf r)) (readyG e C (wOf r)).row (readyG e C (wOf r)).col (ofC r e.pen).1 with col := (readyG e C (wOf r)).col + (wOf r).toNat }, wrap := false }
def moveE (e : Em) (C : Nat) (r c : Int) : Em := { e with g := moveG e.g r c C, wrap := false }
def nAt (ns : List Int) (i : Nat) (none_ : Int) : Int := if ns.length ≤ i ∨ ns.getD i 0 = -1 then none_ else ns.getD i 0
def oneN (x : Int) : Int := min (max x 1) 1000
def allRow (k : Int) (row r : Nat) : Bool := decide (k = 2) || (decide (k = 0) && decide (row < r)) || (decide (k = 1) && decide (r < row))
def eraseTo (g : Gd) (C : Nat) (k : Int) (bp : Pn) : Nat → Gd
 | 0 => g
 | r + 1 => if allRow k g.row r = true then eraseG (eraseTo g C k bp r) (r : Int) 0 (C : Int) bp else eraseTo g C k bp r
def eraseOwn (g : Gd) (C : Nat) (k : Int) (bp : Pn) : Gd :=
 if k = 0 then eraseG g g.row g.col (C : Int) bp else if k = 1 then eraseG g g.row 0 ((g.col : Int) + 1) bp else if k = 2 then eraseG g g.row 0 (C : Int) bp else g
def doE (e : Em) (C : Nat) (x : Ev) : Em :=
 if x.k = 1 then typedE e C x.r
 else if x.k = 2 then
  if x.r = 13 then moveE e C e.g.row 0
  else if x.r = 10 then { e with g := feedG e.g C (blankP e.pen), wrap := false }
  else if x.r = 8 then moveE e C e.g.row ((e.g.col : Int) - 1)
  else e
 else if x.k = 3 then
  if x.r = 65 then moveE e C ((e.g.row : Int) - oneN (nAt x.n 0 1)) e.g.col
  else if x.r = 66 then moveE e C ((e.g.row : Int) + oneN (nAt x.n 0 1)) e.g.col
  else if x.r = 67 then moveE e C e.g.row ((e.g.col : Int) + oneN (nAt x.n 0 1))
  else if x.r = 68 then moveE e C e.g.row ((e.g.col : Int) - oneN (nAt x.n 0 1))
  else if x.r = 72 then moveE e C (oneN (nAt x.n 0 1) - 1) (oneN (nAt x.n 1 1) - 1)
  else if x.r = 74 then { e with g := eraseOwn (eraseTo e.g C (nAt x.n 0 0) (blankP e.pen) e.g.ls.length) C (nAt x.n 0 0) (blankP e.pen) }
  else if x.r = 75 then { e with g := eraseOwn e.g C (nAt x.n 0 0) (blankP e.pen) }
  else if x.r = 109 then { e with pen := turnN e.pen (x.n.map fun v => if v = -1 then 0 else v) }
  else e
 else e
def setP (e : Em) (q : Ps) : Em := ⟨e.g, q, e.pen, e.wrap⟩
def doAll (e : Em) (C : Nat) (l : List Ev) : Em := l.foldl (fun e x => doE e C x) e
def feedE (e : Em) (C : Nat) (bs : List Int) : Em := setP (doAll e C (feedP e.p bs).2) (feedP e.p bs).1
def resizeE (e : Em) (R C : Nat) : Em := { e with g := fitG e.g R C, wrap := false }
theorem typed_p (e : Em) (C : Nat) (r : Int) (q : Ps) : typedE (setP e q) C r = setP (typedE e C r) q := by
 unfold typedE
 simp only [apply_ite (fun e => setP e q)]
 rfl
theorem do_p (e : Em) (C : Nat) (x : Ev) (q : Ps) : doE (setP e q) C x = setP (doE e C x) q := by
 unfold doE
 simp only [apply_ite (fun e => setP e q), typed_p]
 rfl
theorem doAll_p (l : List Ev) : ∀ (e : Em) (C : Nat) (q : Ps), doAll (setP e q) C l = setP (doAll e C l) q := by
 induction l with
 | nil => intro e C q; rfl
 | cons x l ih => intro e C q; unfold doAll at ih ⊢; simp only [List.foldl_cons]; rw [do_p]; exact ih _ _ _
theorem doAll_append (e : Em) (C : Nat) (a b : List Ev) : doAll e C (a ++ b) = doAll (doAll e C a) C b := by unfold doAll; rw [List.foldl_append]
theorem doAll_nil (e : Em) (C : Nat) : doAll e C [] = e := rfl
theorem doAll_cons (e : Em) (C : Nat) (x : Ev) (l : List Ev) : doAll e C (x :: l) = doAll (doE e C x) C l := rfl
theorem feedE_append (e : Em) (C : Nat) (a b : List Int) : feedE e C (a ++ b) = feedE (feedE e C a) C b := by
 have h := feed_append a b e.p
 unfold feedE
 rw [h]
 show setP (doAll e C ((feedP e.p a).2 ++ (feedP (feedP e.p a).1 b).2)) _ = setP (doAll (setP (doAll e C (feedP e.p a).2) (feedP e.p a).1) C (feedP (feedP e.p a).1 b).2) _
 rw [doAll_append, doAll_p]
 rfl
structure EOk (e : Em) (R C : Nat) : Prop where
 g : GOk e.g R C
 p : PsOk e.p
 pen : rightN e.pen = true
theorem EvB.r32 {e : Ev} (h : EvB e) : R32 e.r := ⟨h.1, h.2.1⟩
theorem GOk.cursor {g : Gd} {R C : Nat} (h : GOk g R C) (r c : Nat) (hr : r < R) (hc : c < C) : GOk { g with row := r, col := c } R C := ⟨h.r1, h.r2, h.c1, h.c2, h.len, h.each, hr, hc⟩
theorem feedG_ok {g : Gd} {R C : Nat} (h : GOk g R C) (bp : Pn) : GOk (feedG g C bp) R C := by
 unfold feedG
 split
 ·exact h.scroll 1 bp
 ·rename_i q
  have h1 := h.len
  have h2 := h.row
  exact h.cursor (g.row + 1) g.col (by omega) h.col
theorem readyG_ok {e : Em} {R C : Nat} (h : EOk e R C) (n : Int) : GOk (readyG e C n) R C := by
 unfold readyG
 split
 ·exact feedG_ok (h.g.cursor e.g.row 0 h.g.row (by have := h.g.c1; omega)) _
 ·exact h.g
theorem celB_of (r : Int) (p : Pn) (hr : R32 r) : CelB (ofC r p).1 := by
 unfold ofC
 by_cases h1 : wOf r = 1
 ·rw [if_pos h1]; exact ⟨hr, r32_0, r32_0, by show 1 < 256; omega⟩
 ·rw [if_neg h1]
  by_cases h2 : wOf r = 2
  ·rw [if_pos h2]; exact ⟨hr, r32_0, r32_0, by show 2 < 256; omega⟩
  ·rw [if_neg h2]; exact ⟨r32_0, r32_0, r32_0, by show 0 < 256; omega⟩
theorem typed_ok {e : Em} {R C : Nat} (h : EOk e R C) (r : Int) (hr : R32 r) : EOk (typedE e C r) R C := by
 have hc := h.g.c1
 have hk : ∀ (g : Gd), GOk g R C → GOk (putG g g.row g.col (ofC r e.pen).1) R C := fun g hg => hg.put _ _ _ (celB_of r e.pen hr)
 have h1 := hk _ (readyG_ok h (wOf r))
 unfold typedE
 split
 ·exact ⟨h.g.mark _ _ _ hr, h.p, h.pen⟩
 ·split
  ·exact h
  ·split
   ·exact ⟨h1.cursor _ _ h1.row (by omega), h.p, h.pen⟩
   ·rename_i q1 q2 q3
    exact ⟨h1.cursor _ _ h1.row (by omega), h.p, h.pen⟩
theorem eraseTo_ok {g : Gd} {R C : Nat} (h : GOk g R C) (k : Int) (bp : Pn) : ∀ n, GOk (eraseTo g C k bp n) R C := by
 intro n
 induction n with
 | zero => exact h
 | succ n ih =>
  unfold eraseTo
  split
  ·exact ih.erase _ _ _ _
  ·exact ih
theorem eraseOwn_ok {g : Gd} {R C : Nat} (h : GOk g R C) (k : Int) (bp : Pn) : GOk (eraseOwn g C k bp) R C := by
 unfold eraseOwn
 repeat' split
 all_goals first | exact h.erase _ _ _ _ | exact h
theorem do_ok {e : Em} {R C : Nat} (h : EOk e R C) (x : Ev) (hx : R32 x.r) : EOk (doE e C x) R C := by
 have mv : ∀ r c, EOk (moveE e C r c) R C := fun r c => ⟨h.g.move r c, h.p, h.pen⟩
 have tn : ∀ l, EOk { e with pen := turnN e.pen l } R C := fun l => ⟨h.g, h.p, turnN_right _ _ h.pen⟩
 unfold doE
 generalize (x.n.map fun v => if v = -1 then 0 else v) = zs
 repeat' split
 all_goals first
  | exact typed_ok h _ hx
  | exact mv _ _
  | exact h
  | exact ⟨feedG_ok h.g _, h.p, h.pen⟩
  | exact ⟨eraseOwn_ok (eraseTo_ok h.g _ _ _) _ _, h.p, h.pen⟩
  | exact ⟨eraseOwn_ok h.g _ _, h.p, h.pen⟩
  | exact tn _
theorem doAll_ok (l : List Ev) : ∀ {e : Em} {R C : Nat}, EOk e R C → (∀ x ∈ l, EvB x) → EOk (doAll e C l) R C := by
 induction l with
 | nil => intro e R C h _; exact h
 | cons x l ih =>
  intro e R C h hl
  rw [doAll_cons]
  exact ih (do_ok h x (hl x (by simp)).r32) (fun y hy => hl y (by simp [hy]))
theorem new_ok (R C : Nat) (r1 : 1 ≤ R) (r2 : R ≤ 512) (c1 : 1 ≤ C) (c2 : C ≤ 512) : EOk (newE R C) R C := ⟨GOk.new r1 r2 c1 c2, ok0, by show rightN zeroP = true; decide⟩
theorem resize_ok {e : Em} {R C : Nat} (h : EOk e R C) (R' C' : Nat) (r1 : 1 ≤ R') (r2 : R' ≤ 512) (c1 : 1 ≤ C') (c2 : C' ≤ 512) : EOk (resizeE e R' C') R' C' := ⟨h.g.fit r1 r2 c1 c2, h.p, h.pen⟩
end Go.Proofs.YtkijclgbpbhglaaGreatDoor
