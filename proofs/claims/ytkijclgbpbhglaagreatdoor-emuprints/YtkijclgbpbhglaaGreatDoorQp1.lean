/-
  What the walk of EmuPrints stands on: letters, numbers not below 0, events in a row.
-/
import Derived.Test.YtkijclgbpbhglaaGreatDoorQa24
import Derived.Test.YtkijclgbpbhglaaGreatDoorQa23
import Derived.Test.YtkijclgbpbhglaaGreatDoorQa6
import Derived.Test.YtkijclgbpbhglaaGreatDoorQa22
import Derived.Test.YtkijclgbpbhglaaGreatDoorQa1
namespace Go.Proofs.YtkijclgbpbhglaaGreatDoor
set_option maxRecDepth 100000
open Go.ChangeShapes Go.WideShapes Go.ChangeAt Go.RowKit
set_option linter.unusedVariables false

section
variable {w : World} {b : Bl} {L R C : Nat} {e : Em}
theorem efeed_any (h : Emu w b L R C e) {B : Nat} (A : Option Addr) (n c : Nat) (bs : List Int) (hi : IntsT B 5 .u8 w A bs) (hn : bs.length = n) (hby : Byte bs) (hm : n ≤ 1000000) (hl : Low B b L) (hB : B ≤ w.heap.size) :
    Calls Tryz.prog 17 #[.pointer (some ⟨b.E, 0, none⟩), .slice A n c] w (DoneE b L R C (feedE e C bs) w) :=
  efeed_gen h A n c bs (fun wr hc => (hi.turn h hc hl hB (by decide)).ints) hn hby hm
end
/-- A byte as a letter. -/
def letE (b : Int) : Int := 97 + b % 26
theorem letE_range (b : Int) : 97 ≤ letE b ∧ letE b ≤ 122 := by unfold letE; omega
def letsE (zs : List Int) (m : Nat) : List Int := (zs.take m).map letE
theorem letsE_len (zs : List Int) (m : Nat) (h : m ≤ zs.length) : (letsE zs m).length = m := by unfold letsE; rw [List.length_map, List.length_take]; omega
theorem letsE_next (zs : List Int) (k : Nat) (x : Int) (h : k < zs.length) (hx : zs.getD k 0 = x) : letsE zs (k + 1) = letsE zs k ++ [letE x] := by unfold letsE; rw [take_snoc zs k x h hx, List.map_append]; rfl
theorem letsE_in (zs : List Int) (m : Nat) : ∀ r ∈ letsE zs m, 97 ≤ r ∧ r ≤ 122 := by
  intro r hr
  unfold letsE at hr
  obtain ⟨b, -, rfl⟩ := List.mem_map.1 hr
  exact letE_range b
theorem letsE_byte (zs : List Int) (m : Nat) : Byte (letsE zs m) := by intro r hr; have := letsE_in zs m r hr; omega
/-- Numbers not below 0, up to a place. -/
def topsE (zs : List Int) (k : Nat) : List Int := (zs.take k).map (fun z => max z 0) ++ zs.drop k
theorem topsE_0 (zs : List Int) : topsE zs 0 = zs := by simp [topsE]
theorem topsE_all (zs : List Int) : topsE zs zs.length = zs.map (fun z => max z 0) := by simp [topsE]
theorem topsE_len (zs : List Int) (k : Nat) : (topsE zs k).length = zs.length := by unfold topsE; rw [List.length_append, List.length_map, List.length_take, List.length_drop]; omega
theorem topsE_at (zs : List Int) (k : Nat) (h : k < zs.length) : (topsE zs k).getD k 0 = zs.getD k 0 := by
  have h1 : ((zs.take k).map (fun z => max z 0)).length = k := by rw [List.length_map, List.length_take]; omega
  unfold topsE
  rw [List.getD_eq_getElem?_getD, List.getD_eq_getElem?_getD, List.getElem?_append_right (by omega), h1, Nat.sub_self, List.getElem?_drop, Nat.add_zero]
theorem topsE_next (zs : List Int) (k : Nat) (h : k < zs.length) : (topsE zs k).set k (max (zs.getD k 0) 0) = topsE zs (k + 1) := by
  have h1 : ((zs.take k).map (fun z => max z 0)).length = k := by rw [List.length_map, List.length_take]; omega
  unfold topsE
  rw [List.set_append_right _ _ (by omega), h1, Nat.sub_self, take_snoc zs k (zs.getD k 0) h rfl, List.map_append, List.append_assoc]
  congr 1
  have hd : zs.drop k = zs.getD k 0 :: zs.drop (k + 1) := by
    rw [List.getD_eq_getElem?_getD, List.getElem?_eq_getElem h]
    exact List.drop_eq_getElem_cons h
  generalize zs.getD k 0 = y at hd ⊢
  rw [hd]
  rfl
theorem neg1_no (zs : List Int) (h : ∀ z ∈ zs, 0 ≤ z) : (zs.map fun v => if v = -1 then 0 else v) = zs := by
  conv => rhs; rw [← List.map_id zs]
  refine List.map_congr_left fun z hz => ?_
  have := h z hz
  rw [if_neg (by omega)]
  rfl
theorem maxs_pos (zs : List Int) : ∀ z ∈ zs.map (fun z => max z 0), 0 ≤ z := by
  intro z hz
  obtain ⟨y, -, rfl⟩ := List.mem_map.1 hz
  omega
/-- What the two events leave of a new emulator. -/
theorem do_two (R C row : Nat) (cs : List Int) (hrow : row < R) (hR : R ≤ 512) (hC1 : 1 ≤ C) (hC : C ≤ 512) (hp : ∀ z ∈ cs, 0 ≤ z) (row1 : Int) (h1 : row1 = (row : Int) + 1) :
    doAll (newE R C) C [⟨3, 72, [row1, 1]⟩, ⟨3, 109, 0 :: cs⟩] = ⟨printG R C row 0 [] (turnN zeroP (0 :: cs)), p0, turnN zeroP (0 :: cs), false⟩ := by
  rw [doAll_cons, doAll_cons, doAll_nil]
  have e1 : doE (newE R C) C ⟨3, 72, [row1, 1]⟩ = ⟨⟨(newG R C).ls, row, 0⟩, p0, zeroP, false⟩ := by
    have h2 : (newG R C).ls.length = R := gtab_len _ _
    have h3 : moveG (newG R C) (oneN row1 - 1) (oneN 1 - 1) C = ⟨(newG R C).ls, row, 0⟩ := by
      unfold moveG
      rw [h2, near_in (k := row) (by unfold oneN; omega) hrow, near_in (k := 0) (by unfold oneN; omega) (by omega)]
    have h4 : nAt [row1, 1] 0 1 = row1 := by unfold nAt; simp; omega
    have h5 : nAt [row1, 1] 1 1 = 1 := by unfold nAt; simp
    unfold doE
    simp only [if_neg (by decide : ¬ (3 : Int) = 1), if_neg (by decide : ¬ (3 : Int) = 2), if_pos, if_neg (by decide : ¬ (72 : Int) = 65), if_neg (by decide : ¬ (72 : Int) = 66), if_neg (by decide : ¬ (72 : Int) = 67), if_neg (by decide : ¬ (72 : Int) = 68)]
    unfold moveE
    rw [h4, h5]
    show (⟨moveG (newG R C) (oneN row1 - 1) (oneN 1 - 1) C, p0, zeroP, false⟩ : Em) = _
    rw [h3]
  rw [e1, print_0 R C row [] _ hC]
  unfold doE
  simp only [if_neg (by decide : ¬ (3 : Int) = 1), if_neg (by decide : ¬ (3 : Int) = 2), if_pos, if_neg (by decide : ¬ (109 : Int) = 65), if_neg (by decide : ¬ (109 : Int) = 66), if_neg (by decide : ¬ (109 : Int) = 67), if_neg (by decide : ¬ (109 : Int) = 68), if_neg (by decide : ¬ (109 : Int) = 72), if_neg (by decide : ¬ (109 : Int) = 74), if_neg (by decide : ¬ (109 : Int) = 75)]
  rw [neg1_no _ (by intro z hz; rcases List.mem_cons.1 hz with q | q; omega; exact hp z q)]
theorem print_nil (R C row : Nat) (xs : List Int) (p : Pn) : printG R C row 0 xs p = printG R C row 0 [] p := by
  unfold printG rowL
  congr 1
/-- Letters that are fed then. -/
theorem feed_print (R C row : Nat) (xs : List Int) (p : Pn) (hrow : row < R) (hC : C ≤ 512) (hp : rightN p = true) (hx : ∀ r ∈ xs, 97 ≤ r ∧ r ≤ 122) (hn : xs.length < C) :
    feedE ⟨printG R C row 0 [] p, p0, p, false⟩ C xs = ⟨printG R C row xs.length xs p, p0, p, false⟩ := by
  unfold feedE
  rw [show (⟨printG R C row 0 [] p, p0, p, false⟩ : Em).p = p0 from rfl, feed_letters p0 rfl rfl xs hx]
  have := print_all R C row xs p hrow hC hp (fun r hr => wOf_letter r (hx r hr).1 (hx r hr).2) hn p0 xs.length (Nat.le_refl _)
  rw [List.take_length, print_nil] at this
  simp only
  rw [this]
  rfl
/-- A place of the grid that is printed. -/
theorem at_print (R C row : Nat) (xs : List Int) (p : Pn) (r c : Nat) (hr : r < R) (hc : c < C) (hC : C ≤ 512) : atC (printG R C row xs.length xs p) R C (r : Int) (c : Int) = (if r = row ∧ c < xs.length then ⟨xs.getD c 0, 0, 0, 1, p⟩ else ⟨32, 0, 0, 1, ⟨0, 0, 0⟩⟩, true) := by
  unfold atC
  rw [if_pos ⟨⟨by omega, by omega⟩, by omega, by omega⟩, Int.toNat_natCast, Int.toNat_natCast]
  unfold printG
  rw [gtab_lAt _ _ _ hr]
  by_cases h1 : r = row
  · rw [if_pos h1]
    unfold rowL
    rw [tab_cAt _ _ _ hc]
    by_cases h2 : c < xs.length
    · rw [if_pos h2, if_pos ⟨h1, h2⟩]
    · rw [if_neg h2, if_neg (fun q => h2 q.2)]; rfl
  · rw [if_neg h1, if_neg (fun q => h1 q.1), newC_is C hC, tab_cAt _ _ _ hc]; rfl
theorem Evs.two {C : Nat} {te : TypeId} {k : IntKind} {w : World} {q : Nat} {kd r kd2 r2 : Int} {N N2 : Option Addr} {n n2 c c2 : Nat} {ns ns2 : List Int} (h : Whole w q te [.int .i64 kd, .int k r, .slice N n c, .int .i64 kd2, .int k r2, .slice N2 n2 c2]) (hn : ns.length = n) (hn2 : ns2.length = n2) (hi : IntsT C 3 .i64 w N ns) (hi2 : IntsT C 3 .i64 w N2 ns2) :
    Evs C te k w (some ⟨q, 0, none⟩) [⟨kd, r, ns⟩, ⟨kd2, r2, ns2⟩] := by
  subst hn hn2
  refine ⟨[⟨⟨kd, r, ns⟩, N, c⟩, ⟨⟨kd2, r2, ns2⟩, N2, c2⟩], rfl, by intro x hx; simp at hx; rcases hx with rfl | rfl; exact hi; exact hi2, .inr ⟨q, 0, rfl, .inr ⟨_, h⟩, fun j v hj => ?_⟩⟩
  rw [Nat.zero_add, h.cell]
  simpa [flatE, eaL] using hj
end Go.Proofs.YtkijclgbpbhglaaGreatDoor
