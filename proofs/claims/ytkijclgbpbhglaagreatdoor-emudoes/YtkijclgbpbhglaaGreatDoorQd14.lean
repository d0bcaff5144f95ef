/-
  Contracts and plain mathematics of UDec2, UStrm, UStrm2.
-/
import Derived.Test.YtkijclgbpbhglaaGreatDoorQd13
import Derived.Test.YtkijclgbpbhglaaGreatDoorQd3
import Derived.Laws.CopyOwn
import Derived.Lib.SliceRun
namespace Go.Proofs.YtkijclgbpbhglaaGreatDoor
set_option maxRecDepth 100000
set_option linter.unusedVariables false
set_option maxHeartbeats 8000000
section
open Go.ChangeShapes Go.WideShapes Go.ChangeAt Go.RowKit
theorem behind_any (r c : Int) (w : World) (h0 : 0 ≤ r) (h1 : r ≤ 17407) (h2 : 128 ≤ c) (h3 : c ≤ 191) : Calls Tryz.prog 214 #[.int .i32 r, .int .u8 c] w fun e w' => e = .returned (.int .i32 (r * 64 + (c - 128))) ∧ w' = w := by
 have E : Hid (r * 64 + c % 64 = r * 64 + (c - 128)) := by unfold Hid; omega
 go_enter Tryz.func214, Tryz.ntmps214
 go_wp2; go_ret
 exact ⟨ret_int E.out, rfl⟩
theorem not192_all : ∀ m : Fin 32, bits .andNot .i32 ((192 + m.val : Nat) : Int) 192 = ((m.val : Nat) : Int) := by decide +kernel
theorem not224_all : ∀ m : Fin 16, bits .andNot .i32 ((224 + m.val : Nat) : Int) 224 = ((m.val : Nat) : Int) := by decide +kernel
theorem not240_all : ∀ m : Fin 8, bits .andNot .i32 ((240 + m.val : Nat) : Int) 240 = ((m.val : Nat) : Int) := by decide +kernel
theorem not192 (a : Int) (h : 192 ≤ a) (h2 : a < 224) : bits .andNot .i32 a 192 = a - 192 := by
 have := not192_all ⟨(a - 192).toNat, by omega⟩
 rw [show ((192 + (a - 192).toNat : Nat) : Int) = a by omega] at this
 rw [this]; simp only; omega
theorem not224 (a : Int) (h : 224 ≤ a) (h2 : a < 240) : bits .andNot .i32 a 224 = a - 224 := by
 have := not224_all ⟨(a - 224).toNat, by omega⟩
 rw [show ((224 + (a - 224).toNat : Nat) : Int) = a by omega] at this
 rw [this]; simp only; omega
theorem not240 (a : Int) (h : 240 ≤ a) (h2 : a ≤ 244) : bits .andNot .i32 a 240 = a - 240 := by
 have := not240_all ⟨(a - 240).toNat, by omega⟩
 rw [show ((240 + (a - 240).toNat : Nat) : Int) = a by omega] at this
 rw [this]; simp only; omega
theorem lead1 (B off : Nat) (c : Nat) (a : Int) (w : World) (hc : w.cell? ⟨B, off, none⟩ = some (.int .u8 a)) (h0 : 0 ≤ a) (h1 : a ≤ 127) :
  Calls Tryz.prog 213 #[.slice (some ⟨B, off, none⟩) 1 c] w fun e w' => e = .returned (.int .i32 a) ∧ w = w' := by
 go_enter Tryz.func213, Tryz.ntmps213
 go_wp2; go_ret
 exact ⟨rfl, rfl⟩
theorem lead2 (B off : Nat) (c : Nat) (a : Int) (w : World) (hc : w.cell? ⟨B, off, none⟩ = some (.int .u8 a)) (h0 : 194 ≤ a) (h1 : a < 224) :
  Calls Tryz.prog 213 #[.slice (some ⟨B, off, none⟩) 2 c] w fun e w' => e = .returned (.int .i32 (a - 192)) ∧ w = w' := by
 have E := hide (not192 a (by omega) h1)
 go_enter Tryz.func213, Tryz.ntmps213
 go_wp2; go_ret
 exact ⟨ret_int E.out, rfl⟩
theorem lead3 (B off : Nat) (c : Nat) (a : Int) (w : World) (hc : w.cell? ⟨B, off, none⟩ = some (.int .u8 a)) (h0 : 224 ≤ a) (h1 : a < 240) :
  Calls Tryz.prog 213 #[.slice (some ⟨B, off, none⟩) 3 c] w fun e w' => e = .returned (.int .i32 (a - 224)) ∧ w = w' := by
 have E := hide (not224 a h0 h1)
 go_enter Tryz.func213, Tryz.ntmps213
 go_wp2; go_ret
 exact ⟨ret_int E.out, rfl⟩
theorem lead4 (B off : Nat) (c : Nat) (a : Int) (w : World) (hc : w.cell? ⟨B, off, none⟩ = some (.int .u8 a)) (h0 : 240 ≤ a) (h1 : a ≤ 244) :
  Calls Tryz.prog 213 #[.slice (some ⟨B, off, none⟩) 4 c] w fun e w' => e = .returned (.int .i32 (a - 240)) ∧ w = w' := by
 have E := hide (not240 a h0 h1)
 go_enter Tryz.func213, Tryz.ntmps213
 go_wp2; go_ret
 exact ⟨ret_int E.out, rfl⟩
theorem cells_at {A : Option Addr} {w : World} {x : List Int} (h : Ints .u8 w A x) (hx : 0 < x.length) : ∃ B off, A = some ⟨B, off, none⟩ ∧ ∀ i, i < x.length → w.cell? ⟨B, off + i, none⟩ = some (.int .u8 (x.getD i 0)) := by
 rcases h with h | ⟨B, off, ha, hc⟩
 ·rw [h] at hx; simp at hx
 ·exact ⟨B, off, ha, hc⟩
theorem join_any (A : Option Addr) (n c : Nat) (p : List Int) (w : World) (hp : Ints .u8 w A p) (hn : p.length = n) (hc : n ≤ c) (hcm : c ≤ maxLen) (hf : Full p) :
  Calls Tryz.prog 205 #[.slice A n c] w (Num .i32 (joinV p) w) := by
 unfold maxLen at hcm
 subst hn
 obtain ⟨x, hx⟩ := exq (joinV p)
 rw [hx]
 cases hf with
 | @one a h0 h =>
  obtain ⟨B, off, rfl, hcell⟩ := cells_at hp (by simp)
  have c0 := hcell 0 (by simp)
  simp only [List.getD_cons_zero, Nat.add_zero] at c0
  simp only [List.length_cons, List.length_nil, Nat.zero_add] at hc ⊢
  have HX := hide hx; clear hcell hp hx
  by_cases hc1 : c = 1
  ·subst hc1
   go_enter Tryz.func205, Tryz.ntmps205
   go_wp2_with (go_at_call 213; refine (lead1 B off _ a w c0 h0 h).mono ?_; rintro e w' ⟨rfl, rfl⟩)
   go_ret
   exact ⟨ret_int (by rw [← HX.out]; rfl), Below.refl _ _⟩
  ·go_enter Tryz.func205, Tryz.ntmps205
   go_wp2_with (go_at_call 213; refine (lead1 B off _ a w c0 h0 h).mono ?_; rintro e w' ⟨rfl, rfl⟩)
   go_ret
   exact ⟨ret_int (by rw [← HX.out]; rfl), Below.refl _ _⟩
 | @two a b h h1 =>
  obtain ⟨B, off, rfl, hcell⟩ := cells_at hp (by simp)
  have c0 := hcell 0 (by simp)
  have c1 := hcell 1 (by simp)
  simp only [List.getD_cons_zero, List.getD_cons_succ, Nat.add_zero] at c0 c1
  simp only [List.length_cons, List.length_nil, Nat.zero_add, Nat.reduceAdd] at hc ⊢
  obtain ⟨c', rfl⟩ : ∃ c', c = c' + 2 := ⟨c - 2, by omega⟩
  have HX : Hid ((a - 192) * 64 + (b - 128) = x) := by unfold Hid; rw [← hx]; simp only [joinV]; omega
  clear hcell hp hx
  obtain ⟨h2, h3⟩ := h
  obtain ⟨h4, h5⟩ := h1
  go_enter Tryz.func205, Tryz.ntmps205
  go_wp2_with (first | (go_at_call 213; refine (lead2 B off _ a w c0 h2 h3).mono ?_; rintro e w' ⟨rfl, rfl⟩) | (go_at_call 214; refine (behind_any _ _ _ (by omega) (by omega) (by omega) (by omega)).mono ?_; rintro e w' ⟨rfl, rfl⟩))
  go_ret
  exact ⟨ret_int HX.out, Below.refl _ _⟩
 | @three a b d h h1 h2 =>
  obtain ⟨B, off, rfl, hcell⟩ := cells_at hp (by simp)
  have c0 := hcell 0 (by simp)
  have c1 := hcell 1 (by simp)
  have c2 := hcell 2 (by simp)
  simp only [List.getD_cons_zero, List.getD_cons_succ, Nat.add_zero] at c0 c1 c2
  simp only [List.length_cons, List.length_nil, Nat.zero_add, Nat.reduceAdd] at hc ⊢
  obtain ⟨c', rfl⟩ : ∃ c', c = c' + 3 := ⟨c - 3, by omega⟩
  have HX : Hid (((a - 224) * 64 + (b - 128)) * 64 + (d - 128) = x) := by unfold Hid; rw [← hx]; simp only [joinV]; omega
  clear hcell hp hx
  have l1 := lo2_inv a
  have l2 := hi2_inv a
  obtain ⟨g1, g2⟩ := h
  obtain ⟨g3, g4⟩ : 128 ≤ b ∧ b ≤ 191 := by omega
  obtain ⟨g5, g6⟩ := h2
  clear l1 l2 h1
  go_enter Tryz.func205, Tryz.ntmps205
  go_wp2_with (go_at_call 213; refine (lead3 B off _ a w c0 g1 g2).mono ?_; rintro e w' ⟨rfl, rfl⟩)
  go_quiet ((go_at_call 214; exact Calls.quiet_of_same (behind_any _ _ _ (by omega) (by omega) (by omega) (by omega))))
  have hb0 : Below w.heap.size w (w.drewN nq) := (Below.refl _ _).drewN _
  have d2 : (w.drewN nq).cell? ⟨B, off + 2, none⟩ = some (.int .u8 d) := c2
  generalize w.drewN nq = w0 at *
  go_wp2_with (go_at_call 214; refine (behind_any _ _ _ (by omega) (by omega) (by omega) (by omega)).mono ?_; rintro e w' ⟨rfl, rfl⟩)
  go_ret
  exact ⟨ret_int HX.out, hb0⟩
 | @four a b d f h h1 h2 h3 =>
  obtain ⟨B, off, rfl, hcell⟩ := cells_at hp (by simp)
  have c0 := hcell 0 (by simp)
  have c1 := hcell 1 (by simp)
  have c2 := hcell 2 (by simp)
  have c3 := hcell 3 (by simp)
  simp only [List.getD_cons_zero, List.getD_cons_succ, Nat.add_zero] at c0 c1 c2 c3
  simp only [List.length_cons, List.length_nil, Nat.zero_add, Nat.reduceAdd] at hc ⊢
  obtain ⟨c', rfl⟩ : ∃ c', c = c' + 4 := ⟨c - 4, by omega⟩
  have HX : Hid ((((a - 240) * 64 + (b - 128)) * 64 + (d - 128)) * 64 + (f - 128) = x) := by unfold Hid; rw [← hx]; simp only [joinV]; omega
  clear hcell hp hx
  have l1 := lo2_inv a
  have l2 := hi2_inv a
  obtain ⟨g1, g2⟩ := h
  obtain ⟨g3, g4⟩ : 128 ≤ b ∧ b ≤ 191 := by omega
  have g7 : (a - 240) * 64 + (b - 128) ≤ 271 := by omega
  obtain ⟨g5, g6⟩ := h2
  obtain ⟨g8, g9⟩ := h3
  clear l1 l2 h1
  go_enter Tryz.func205, Tryz.ntmps205
  go_wp2_with (go_at_call 213; refine (lead4 B off _ a w c0 g1 g2).mono ?_; rintro e w' ⟨rfl, rfl⟩)
  go_quiet ((go_at_call 214; exact Calls.quiet_of_same (behind_any _ _ _ (by omega) (by omega) (by omega) (by omega))))
  have hb0 : Below w.heap.size w (w.drewN nq) := (Below.refl _ _).drewN _
  have d2 : (w.drewN nq).cell? ⟨B, off + 2, none⟩ = some (.int .u8 d) := c2
  have d3 : (w.drewN nq).cell? ⟨B, off + 3, none⟩ = some (.int .u8 f) := c3
  generalize w.drewN nq = w0 at *
  go_wp2
  go_quiet ((go_at_call 214; exact Calls.quiet_of_same (behind_any _ _ _ (by omega) (by omega) (by omega) (by omega))))
  have hb1 : Below w.heap.size w (w0.drewN nq) := hb0.drewN _
  have e3 : (w0.drewN nq).cell? ⟨B, off + 3, none⟩ = some (.int .u8 f) := d3
  generalize w0.drewN nq = w1 at *
  go_wp2_with (go_at_call 214; refine (behind_any _ _ _ (by omega) (by omega) (by omega) (by omega)).mono ?_; rintro e w' ⟨rfl, rfl⟩)
  go_ret
  exact ⟨ret_int HX.out, hb1⟩
def Pair2 (r : Int) (n : Nat) (w : World) (e : Ending) (w' : World) : Prop := e = .returned (.tuple #[.int .i32 r, .int .i64 n]) ∧ Below w.heap.size w w'
theorem first_any (A : Option Addr) (n c : Nat) (b : List Int) (w : World) (hb : Ints .u8 w A b) (hn : b.length = n) (hc : n ≤ c) (hcm : c ≤ maxLen) (hl : n ≤ 1000000) (hy : Byte b) :
  Calls Tryz.prog 189 #[.slice A n c] w (Pair2 (first b).1 (first b).2 w) := by
 cases b with
 | nil =>
  obtain rfl : n = 0 := by simpa using hn.symm
  clear hn hb hy
  go_enter Tryz.func189, Tryz.ntmps189
  go_wp2; go_ret2
  exact ⟨rfl, Below.refl _ _⟩
 | cons a r =>
  obtain ⟨B, off, rfl, c0, hB⟩ := hb.at (i := 0) (by simp)
  simp only [List.getD_cons_zero, Nat.add_zero] at c0
  obtain ⟨a0, a1⟩ := hy a (by simp)
  have hn0 : 0 < n := by rw [← hn]; simp
  have hfl := fit_le (a :: r)
  have hfs := fit_sz a r
  rw [hn] at hfl
  have hne : ((n : Int) == 0) = false := by simp; omega
  have HN := hide hn; clear hn
  obtain ⟨F, hF⟩ := exq (fit (a :: r))
  obtain ⟨S, hS⟩ := exq (sz a)
  rw [hF] at hfl hfs
  rw [hS] at hfs
  have HF := hide hF; have HS := hide hS; clear hF hS
  by_cases h0 : F = 0
  ·have HFST : Hid (first (a :: r) = (65533, 1)) := first_zero (by rw [HF.out]; exact h0)
   subst h0
   go_enter Tryz.func189, Tryz.ntmps189
   go_wp2_with fail
   refine (size_any a w a0 a1).mono ?_
   rintro e w' ⟨rfl, rfl⟩
   go_wp2_with fail
   refine (fitting_any _ n c a r w hb HN.out hl hy).mono ?_
   rintro e w' ⟨rfl, rfl⟩
   rw [HF.out]
   go_wp2; go_ret2
   exact ⟨by rw [HFST.out]; rfl, Below.refl _ _⟩
  ·have h0' : ((F : Int) == 0) = false := by simp; omega
   by_cases h1 : F = S
   ·have HFU := hide (take_full a0 (by rw [HF.out]; exact h0) (by rw [HF.out, HS.out]; exact h1))
    have HFST : Hid (first (a :: r) = (joinV ((a :: r).take F), F)) := by
     have := first_whole (c := a) (r := r) (by rw [HF.out]; exact h0) (by rw [HF.out, HS.out]; exact h1)
     rw [HF.out] at this; exact this
    subst h1
    have k1 : (0 : Int) ≤ (F : Int) := by omega
    have k2 : (F : Int) ≤ (c : Int) := by omega
    go_enter Tryz.func189, Tryz.ntmps189
    go_wp2_with fail
    refine (size_any a w a0 a1).mono ?_
    rintro e w' ⟨rfl, rfl⟩
    go_wp2_with fail
    refine (fitting_any _ n c a r w hb HN.out hl hy).mono ?_
    rintro e w' ⟨rfl, rfl⟩
    rw [HF.out, HS.out]
    go_wp2_with fail
    refine (join_any _ F c ((a :: r).take F) w (hb.take F) ?_ (by omega) hcm ?_).mono ?_
    ·rw [List.length_take, HN.out]; omega
    ·have := HFU.out.1; rw [HF.out] at this; exact this
    rintro e w1 ⟨rfl, hb1⟩
    go_wp2; go_ret2
    exact ⟨by rw [HFST.out]; rfl, hb1⟩
   ·have h1' : ((F : Int) == (S : Int)) = false := by simp; omega
    by_cases h2 : F = n
    ·have HFST : Hid (first (a :: r) = (0, 0)) := first_held (by rw [HF.out, HS.out]; exact h1) (by rw [HF.out, HN.out]; exact h2)
     subst h2
     go_enter Tryz.func189, Tryz.ntmps189
     go_wp2_with fail
     refine (size_any a w a0 a1).mono ?_
     rintro e w' ⟨rfl, rfl⟩
     go_wp2_with fail
     refine (fitting_any _ F c a r w hb HN.out hl hy).mono ?_
     rintro e w' ⟨rfl, rfl⟩
     rw [HF.out, HS.out]
     go_wp2; go_ret2
     exact ⟨by rw [HFST.out]; rfl, Below.refl _ _⟩
    ·have h2' : ((F : Int) == (n : Int)) = false := by simp; omega
     have HFST : Hid (first (a :: r) = (65533, F)) := by
      have := first_broken (c := a) (r := r) (by rw [HF.out]; exact h0) (by rw [HF.out, HS.out]; exact h1) (by rw [HF.out, HN.out]; exact h2)
      rw [HF.out] at this; exact this
     go_enter Tryz.func189, Tryz.ntmps189
     go_wp2_with fail
     refine (size_any a w a0 a1).mono ?_
     rintro e w' ⟨rfl, rfl⟩
     go_wp2_with fail
     refine (fitting_any _ n c a r w hb HN.out hl hy).mono ?_
     rintro e w' ⟨rfl, rfl⟩
     rw [HF.out, HS.out]
     go_wp2; go_ret2
     exact ⟨by rw [HFST.out]; rfl, Below.refl _ _⟩
section
variable {T : TypeId} {R : List Value}
section
variable {B g : Nat} {w w' w'' : World}
theorem Fr.row (cs : Array Value) : Fr B g w (w.setRow g cs) := ⟨rfl, rfl, rfl, by simp [World.setRow], fun k _ hne => setRow_other w g k cs hne⟩
theorem Fr.ints {k : IntKind} {A : Option Addr} {zs : List Int} (h : Fr B g w w') (hi : Ints k w A zs) (hA : ∀ ad, A = some ad → ad.block < B ∧ ad.block ≠ g) : Ints k w' A zs := by
 rcases hi with hi | ⟨b, off, ha, hc⟩
 ·exact .inl hi
 ·refine .inr ⟨b, off, ha, fun i hi => ?_⟩
  obtain ⟨h1, h2⟩ := hA _ ha
  have e : w'.cell? ⟨b, off + i, none⟩ = w.cell? ⟨b, off + i, none⟩ := by
   simp only [World.cell?, h.block b h1 h2]
  rw [e, hc i hi]
end
def Strm (T : TypeId) (R : List Value) (w : World) (g : Nat) (h : List Int) : Prop :=
 ∃ b : List Int, b.length = 4 ∧ Whole w g T (b.map (Value.int .u8) ++ .int .i64 h.length :: R) ∧ b.take h.length = h ∧ h.length ≤ 4
def lenAt (w : World) (g : Nat) : Nat := match w.cell? ⟨g, 4, none⟩ with
 | some (.int _ n) => n.toNat
 | _ => 0
section
variable {w w' : World} {g : Nat} {h : List Int}
theorem Strm.len (s : Strm T R w g h) : w.cell? ⟨g, 4, none⟩ = some (.int .i64 h.length) := by
 obtain ⟨b, hb, hw, _, _⟩ := s
 rw [hw.cell]
 rw [List.getElem?_append_right (by simp [hb])]
 simp [hb]
theorem Strm.lenAt (s : Strm T R w g h) : lenAt w g = h.length := by unfold YtkijclgbpbhglaaGreatDoor.lenAt; rw [s.len]; simp
theorem Strm.lt (s : Strm T R w g h) : g < w.heap.size := by obtain ⟨_, _, hw, _⟩ := s; exact hw.lt
theorem Strm.four (s : Strm T R w g h) : h.length ≤ 4 := by obtain ⟨_, _, _, _, h⟩ := s; exact h
theorem Strm.ints (s : Strm T R w g h) : Ints .u8 w (some ⟨g, 0, none⟩) h := by
 obtain ⟨b, hb, hw, ht, h4⟩ := s
 refine .inr ⟨g, 0, rfl, fun i hi => ?_⟩
 rw [Nat.zero_add, hw.cell, List.getElem?_append_left (by simp; omega)]
 have : h.getD i 0 = b[i]'(by omega) := by
  conv => lhs; rw [← ht]
  simp [hi, List.getElem?_eq_getElem (show i < b.length by omega)]
 rw [this]
 simp [List.getElem?_eq_getElem (show i < b.length by omega)]
theorem Strm.frozen (s : Strm T R w g h) (i : Nat) : w.frozen? ⟨g, i, none⟩ = false := by obtain ⟨_, _, hw, _⟩ := s; exact hw.frozen i
theorem Strm.drewN (s : Strm T R w g h) (n : Nat) : Strm T R (w.drewN n) g h := s
theorem Strm.below {B : Nat} (s : Strm T R w g h) (hb : Below B w w') (hg : g < B) : Strm T R w' g h := by
 obtain ⟨b, hb1, hw, h1⟩ := s
 exact ⟨b, hb1, hw.below hb hg, h1⟩
theorem Strm.later (s : Strm T R w g h) (hb : Below w.heap.size w w') : Strm T R w' g h := s.below hb s.lt
end
theorem Whole.cell4 {w : World} {g : Nat} {b : List Int} {u : Value} (h : Whole w g T (b.map (Value.int .u8) ++ u :: R)) (hb : b.length = 4) : w.cell? ⟨g, 4, none⟩ = some u := by
 rw [h.cell, List.getElem?_append_right (by simp [hb])]
 simp [hb]
theorem strm_put {w : World} {g m q : Nat} {b h : List Int} {u : Value} (hw : Whole w g T (b.map (Value.int .u8) ++ u :: R)) (hb : b.length = 4) (hh : h.length = m - q) (hq : q ≤ m) (ht : b.take (m - q) = h) (hm : m ≤ 4) :
  Strm T R (w.setCell ⟨g, 4, none⟩ (.int .i64 ((m : Int) - (q : Int)))) g h := by
 refine ⟨b, hb, ?_, by rw [hh]; exact ht, by omega⟩
 have := hw.put 4 (.int .i64 ((m : Int) - (q : Int)))
 rw [List.set_append_right _ _ (by simp [hb])] at this
 simp [hb] at this
 rw [hh, show ((m - q : Nat) : Int) = (m : Int) - (q : Int) by omega]
 exact this
theorem strm_put0 {w : World} {g : Nat} {b h : List Int} {u : Value} (hw : Whole w g T (b.map (Value.int .u8) ++ u :: R)) (hb : b.length = 4) (hh : h.length = 0) :
  Strm T R (w.setCell ⟨g, 4, none⟩ (.int .i64 0)) g h := by
 have e : h = [] := List.eq_nil_of_length_eq_zero hh
 subst e
 have := strm_put (m := 0) (q := 0) (h := []) hw hb rfl (Nat.le_refl _) rfl (by omega)
 simpa using this
theorem tell_any (g B : Nat) (h acc : List Int) (w : World) (v : Value) (hs : Strm T R w g h) (hgB : g < B) (hown0 : Own 21 .i32 B w w v acc) (hby : Byte h) (hl : acc.length ≤ 1000) :
  Calls Tryz.prog 169 #[.pointer (some ⟨g, 0, none⟩), v] w fun e w' => ∃ v', e = .returned v' ∧ Own 21 .i32 B w' w' v' (acc ++ (cut h).1) ∧ Strm T R w' g (cut h).2 ∧ Fr B g w w' := by
 have h4 := hs.four
 go_enter Tryz.func169, Tryz.ntmps169
 go_wp2
 go_loopw [1, 5, 6] (fun l _ _ wr => ∃ x ac : List Int, Strm T R wr g x ∧ Own 21 .i32 B wr wr l ac ∧ Fr B g w wr ∧ Byte x ∧ acc ++ (cut h).1 = ac ++ (cut x).1 ∧ (cut h).2 = (cut x).2 ∧ ac.length + x.length ≤ 1004) (fun _ _ _ wr => lenAt wr g)
 case atStart => exact ⟨h, acc, hs, hown0, Fr.refl, hby, rfl, rfl, by omega⟩
 case round =>
  obtain ⟨x, ac, hx, hown, hfr, bx, he1, he2, hlen⟩ := hrel
  have HE1 := hide he1; have HE2 := hide he2; clear he1 he2
  have hxn := hx.len
  have hm4 := hx.four
  have hla := hx.lenAt
  have hlt := hx.lt
  obtain ⟨m, hm⟩ := exq (x.length)
  rw [hm] at hxn hm4 hla hlen
  have HM := hide hm; have HLA := hide hla; clear hm hla
  have hle := first_le x
  rw [HM.out] at hle
  have hrg := first_range x bx
  obtain ⟨r, q, hrq⟩ : ∃ r q, first x = (r, q) := ⟨_, _, rfl⟩
  rw [hrq] at hle hrg
  obtain ⟨hr0, hr1⟩ := hrg
  have HRQ := hide hrq; clear hrq
  simp only at hle hr0 hr1
  have m0 : (0 : Int) ≤ (m : Int) := by omega
  have m4 : (m : Int) ≤ 4 := by omega
  have hxd : wr.drew.cell? ⟨g, 4, none⟩ = some (.int .i64 m) := hxn
  have hxi : Ints .u8 wr.drew (some ⟨g, 0, none⟩) x := (hx.drewN 1).ints
  have hb0 : Below wr.heap.size wr wr.drew := (Below.refl _ _).drewN 1
  by_cases hz : q = 0
  ·subst hz
   have HC : Hid (cut x = ([], x)) := cut_held (by rw [HRQ.out])
   go_wp2
   refine rgC [(true, [0]), (true, [3]), (true, [1]), (true, [2]), (false, [4, 5, 6, 7, 8, 9]), (true, [10]), (true, [12]), (false, [11, 13])] ?_
   generalize wr.drew = wd at *
   iterate 4 refine stC (h := ?_)
   refine alC fun K hK => ?_
   go_wp2_with fail
   refine (first_any _ m 4 x wd hxi HM.out hm4 (by unfold maxLen; omega) (by omega) bx).mono ?_
   rintro e w1 ⟨rfl, hb1⟩
   rw [HRQ.out]
   go_wp2
   refine hK.out _ _ ?_
   clear hK K
   refine stC (h := ?_)
   refine stC (h := ?_)
   refine alC fun K hK => ?_
   go_wp2
   refine hK.out _ _ ?_
   clear hK K
   refine chain_nil ?_
   go_wp2; go_ret
   have hb01 : Below wr.heap.size wr w1 := hb0.trans (hb1.mono hb0.size)
   refine ⟨_, rfl, ?_, ?_, hfr.trans (Fr.of_below (hb01.mono hown.le))⟩
   ·rw [HE1.out, HC.out, List.append_nil]; exact (hown.later hb01).now
   ·rw [HE2.out, HC.out]; exact hx.later hb01
  ·have HC : Hid (cut x = (r :: (cut (x.drop q)).1, (cut (x.drop q)).2)) := by
    have := cut_step (b := x) (by rw [HRQ.out]; exact hz)
    rw [HRQ.out] at this; exact this
   have hz' : ((q : Int) == 0) = false := by simp; omega
   have q0 : (0 : Int) ≤ (q : Int) := by omega
   have q1 : (q : Int) ≤ (m : Int) := by omega
   go_wp2
   refine rgC [(true, [0]), (true, [3]), (true, [1]), (true, [2]), (false, [4, 5, 6, 7, 8, 9]), (true, [10]), (true, [12]), (false, [11, 13])] ?_
   generalize wr.drew = wd at *
   iterate 4 refine stC (h := ?_)
   refine alC fun K hK => ?_
   go_wp2_with fail
   refine (first_any _ m 4 x wd hxi HM.out hm4 (by unfold maxLen; omega) (by omega) bx).mono ?_
   rintro e w1 ⟨rfl, hb1⟩
   rw [HRQ.out]
   go_wp2
   refine hK.out _ _ ?_
   clear hK K
   refine stC (h := ?_)
   refine stC (h := ?_)
   refine alC fun K hK => ?_
   go_wp2
   refine hK.out _ _ ?_
   clear hK K
   refine chain_nil ?_
   have hb01 : Below wr.heap.size wr w1 := hb0.trans (hb1.mono hb0.size)
   have hown1 := (hown.later hb01).now
   have hx1 := hx.later hb01
   clear hxd hxi hxn
   go_wp2_with (at_builtin; refine wpList_push elemRunes rfl _ _ rfl rfl rfl hown1 (by omega) (by omega) ?_; intro v2 w2 hown2)
   have hx2 := hx1.below hown2.bel hgB
   have hf2 : Fr B g w w2 := (hfr.trans (Fr.of_below (hb01.mono hown.le))).trans (Fr.of_below hown2.bel)
   have ho2 := hown2.now
   have hd2 : w2.drew.cell? ⟨g, 4, none⟩ = some (.int .i64 m) := by have := hx2.len; rw [HM.out] at this; exact this
   have hx2d : Strm T R w2.drew g x := hx2.drewN 1
   have hf3 : Fr B g w w2.drew := hf2.drewN 1
   have ho3 : Own 21 .i32 B w2.drew w2.drew v2 (ac ++ [r]) := (ho2.later bd1).now
   clear hown1 hx1 hown2 hx2 hf2 ho2 hb01 hown hx hb0 hb1 hfr
   by_cases hqm : q < m
   ·have hq4 : ¬ 4 = q := by omega
    refine rgC [(true, [0]), (true, [4]), (true, [7]), (true, [8]), (true, [1]), (true, [2]), (true, [5]), (true, [6]), (true, [9]), (true, [10]), (true, [3]), (false, [11, 12, 13])] ?_
    generalize w2.drew = w3 at *
    obtain ⟨b, hb4, hw3, hbt, _⟩ := hx2d
    rw [HM.out] at hw3 hbt
    have HCN : Hid (((x.drop q).map (Value.int .u8)).length = Nat.min (m - q) 4) := by
     unfold Hid; rw [List.length_map, List.length_drop, HM.out, show Nat.min (m - q) 4 = min (m - q) 4 from rfl]; omega
    have HSRC : Hid (∀ j v, ((x.drop q).map (Value.int .u8))[j]? = some v → w3.cell? ((⟨g, q, none⟩ : Addr).add j) = some v) := by
     unfold Hid; intro j v hv
     have e : (⟨g, q, none⟩ : Addr).add j = ⟨g, q + j, none⟩ := by unfold Addr.add; split <;> simp_all
     have hj : j < m - q := by
      have := (List.getElem?_eq_some_iff.1 hv).1
      rw [List.length_map, List.length_drop, HM.out] at this; exact this
     rw [e, hw3.cell, List.getElem?_append_left (by simp; omega), ← hv]
     rw [List.getElem?_map, List.getElem?_map, List.getElem?_drop, ← hbt, List.getElem?_take, if_pos (by omega)]
    have HFIT : Hid (0 + ((x.drop q).map (Value.int .u8)).length ≤ (b.map (Value.int .u8) ++ Value.int .i64 m :: R).toArray.size) := by
     unfold Hid; simp [HM.out]; omega
    have HW3 : Hid (w3.heap[g]? = some (.cells (b.map (Value.int .u8) ++ Value.int .i64 m :: R).toArray T (0, 0))) := hw3
    have HONE : Hid (∀ v ∈ (x.drop q).map (Value.int .u8), v.oneCell' = true) := oneCells .u8 _
    iterate 11 refine stC (h := ?_)
    refine alC fun K hK => ?_
    go_wp2_with (with_reducible refine wpList_copy_own rfl (.tmp 29) (.tmp 38) 34 34 rfl 5 Tryz.underlying34 (by kernel_rfl) g 0 4 4 ⟨g, q, none⟩ (m - q) (4 - q) rfl rfl _ T HW3.out ((x.drop q).map (Value.int .u8)) HCN.out HSRC.out HFIT.out HONE.out ?_)
    refine hK.out _ _ ?_
    clear hK K
    refine chain_nil ?_
    have hw4 : Whole (w3.setRow g (List.take 0 (b.map (Value.int .u8) ++ Value.int .i64 m :: R) ++ ((x.drop q).map (Value.int .u8) ++ List.drop (0 + ((x.drop q).map (Value.int .u8)).length) (b.map (Value.int .u8) ++ Value.int .i64 m :: R))).toArray) g T ((x.drop q ++ b.drop (m - q)).map (Value.int .u8) ++ Value.int .i64 m :: R) := by
     unfold Whole
     rw [setRow_heap w3 g _ _ T _ hw3]
     simp [HM.out]
     rw [List.drop_append_of_le_length (by simp; omega)]
    have hf4 := hf3.trans (Fr.row (B := B) (g := g) (w := w3) (List.take 0 (b.map (Value.int .u8) ++ Value.int .i64 m :: R) ++ ((x.drop q).map (Value.int .u8) ++ List.drop (0 + ((x.drop q).map (Value.int .u8)).length) (b.map (Value.int .u8) ++ Value.int .i64 m :: R))).toArray)
    have hsr : ∀ i, B ≤ i → (w3.setRow g (List.take 0 (b.map (Value.int .u8) ++ Value.int .i64 m :: R) ++ ((x.drop q).map (Value.int .u8) ++ List.drop (0 + ((x.drop q).map (Value.int .u8)).length) (b.map (Value.int .u8) ++ Value.int .i64 m :: R))).toArray).heap[i]? = w3.heap[i]? := fun i hi => setRow_other w3 g i _ (by omega)
    have ho4 := ho3.keep (fun i hi _ => hsr i hi) (by simp [World.setRow])
    have HBT : Hid ((x.drop q ++ b.drop (m - q)).length = 4 ∧ (x.drop q ++ b.drop (m - q)).take (m - q) = x.drop q) := by
     have e : (x.drop q).length = m - q := by rw [List.length_drop, HM.out]
     refine ⟨?_, ?_⟩
     ·rw [List.length_append, e, List.length_drop, hb4]; omega
     ·rw [← e, List.take_left]
    clear hsr hf3 ho3 hd2 hw3 hbt hb4 HCN HSRC HFIT HW3 HONE
    generalize w3.setRow g (List.take 0 (b.map (Value.int .u8) ++ Value.int .i64 m :: R) ++ ((x.drop q).map (Value.int .u8) ++ List.drop (0 + ((x.drop q).map (Value.int .u8)).length) (b.map (Value.int .u8) ++ Value.int .i64 m :: R))).toArray = w4 at *
    generalize x.drop q ++ b.drop (m - q) = b' at *
    simp only [Act.put, List.setIfInBounds_toArray, List.set_cons_zero, List.set_cons_succ]
    have hc4 := hw4.cell4 HBT.out.1
    have hz4 := hw4.frozen 4
    have hs5 : Strm T R (w4.setCell ⟨g, 4, none⟩ (.int .i64 ((m : Int) - (q : Int)))) g (x.drop q) := strm_put hw4 HBT.out.1 (by rw [List.length_drop, HM.out]) (by omega) HBT.out.2 (by omega)
    have ho5 := ho4.keep (w1 := w4.setCell ⟨g, 4, none⟩ (.int .i64 ((m : Int) - (q : Int)))) (fun i hi _ => Below.heap_setCell _ _ _ _ (by simp; omega)) (by simp [World.setCell])
    have hf5 := hf4.trans (Fr.put (B := B) (g := g) (w := w4) 4 (.int .i64 ((m : Int) - (q : Int))))
    have hla5 := hide hs5.lenAt; go_wp2
    go_roundw
    case rel =>
     refine ⟨x.drop q, ac ++ [r], hs5, ho5, hf5, bx.drop q, ?_, ?_, ?_⟩
     ·rw [HE1.out, HC.out]; simp
     ·rw [HE2.out, HC.out]
     ·rw [List.length_append, List.length_drop, HM.out]; simp; omega
    case measure =>
     rw [HLA.out, hla5.out, List.length_drop, HM.out]; omega
   ·obtain rfl : q = m := by omega
    by_cases h44 : q = 4
    ·subst h44
     refine rgC [(true, [0]), (true, [4]), (true, [7]), (true, [8]), (true, [1]), (true, [2]), (true, [5]), (true, [6]), (true, [9]), (true, [10]), (true, [3]), (false, [11, 12, 13])] ?_
     generalize w2.drew = w3 at *
     iterate 11 refine stC (h := ?_)
     refine alC fun K hK => ?_
     go_wp2_with (with_reducible refine wpList_copy_nothing rfl (.tmp 29) (.tmp 38) 34 34 rfl 5 Tryz.underlying34 (by kernel_rfl) _ _ 4 4 0 _ rfl rfl (by simp) ?_)
     refine hK.out _ _ ?_
     clear hK K
     refine chain_nil ?_
     obtain ⟨b, hb4, hw4, hbt, _⟩ := hx2d
     rw [HM.out] at hw4
     have HBT : Hid (b.length = 4 ∧ b.take 0 = x.drop 4) := ⟨hb4, by rw [List.drop_eq_nil_of_le (by rw [HM.out]; omega)]; rfl⟩
     have hdl : (x.drop 4).length = 0 := by have := HM.out; rw [List.length_drop]; omega
     clear hb4 hbt
     have hc4 := hw4.cell4 HBT.out.1
     have hz4 := hw4.frozen 4
     have hs5 : Strm T R (w3.setCell ⟨g, 4, none⟩ (.int .i64 0)) g (x.drop 4) := strm_put0 hw4 HBT.out.1 hdl
     have ho5 := ho3.keep (w1 := w3.setCell ⟨g, 4, none⟩ (.int .i64 0)) (fun i hi _ => Below.heap_setCell _ _ _ _ (by simp; omega)) (by simp [World.setCell])
     have hf5 := hf3.trans (Fr.put (B := B) (g := g) (w := w3) 4 (.int .i64 0))
     have hla5 := hide hs5.lenAt; have HDL := hide hdl; clear hdl; go_wp2
     go_roundw
     case rel =>
      refine ⟨x.drop 4, ac ++ [r], hs5, ho5, hf5, bx.drop 4, ?_, ?_, ?_⟩
      ·rw [HE1.out, HC.out]; simp
      ·rw [HE2.out, HC.out]
      ·rw [List.length_append, HDL.out]; simp; omega
     case measure =>
      rw [HLA.out, hla5.out, HDL.out]; omega
    ·have hq4 : ¬ 4 = q := by omega
     refine rgC [(true, [0]), (true, [4]), (true, [7]), (true, [8]), (true, [1]), (true, [2]), (true, [5]), (true, [6]), (true, [9]), (true, [10]), (true, [3]), (false, [11, 12, 13])] ?_
     generalize w2.drew = w3 at *
     iterate 11 refine stC (h := ?_)
     refine alC fun K hK => ?_
     go_wp2_with (with_reducible refine wpList_copy_nothing rfl (.tmp 29) (.tmp 38) 34 34 rfl 5 Tryz.underlying34 (by kernel_rfl) _ _ 4 4 0 _ rfl rfl (by simp) ?_)
     refine hK.out _ _ ?_
     clear hK K
     refine chain_nil ?_
     obtain ⟨b, hb4, hw4, hbt, _⟩ := hx2d
     rw [HM.out] at hw4
     have HBT : Hid (b.length = 4 ∧ b.take 0 = x.drop q) := ⟨hb4, by rw [List.drop_eq_nil_of_le (by rw [HM.out]; omega)]; rfl⟩
     have hdl : (x.drop q).length = 0 := by have := HM.out; rw [List.length_drop]; omega
     clear hb4 hbt
     have hc4 := hw4.cell4 HBT.out.1
     have hz4 := hw4.frozen 4
     have hs5 : Strm T R (w3.setCell ⟨g, 4, none⟩ (.int .i64 0)) g (x.drop q) := strm_put0 hw4 HBT.out.1 hdl
     have ho5 := ho3.keep (w1 := w3.setCell ⟨g, 4, none⟩ (.int .i64 0)) (fun i hi _ => Below.heap_setCell _ _ _ _ (by simp; omega)) (by simp [World.setCell])
     have hf5 := hf3.trans (Fr.put (B := B) (g := g) (w := w3) 4 (.int .i64 0))
     have hla5 := hide hs5.lenAt; have HDL := hide hdl; clear hdl; go_wp2
     go_roundw
     case rel =>
      refine ⟨x.drop q, ac ++ [r], hs5, ho5, hf5, bx.drop q, ?_, ?_, ?_⟩
      ·rw [HE1.out, HC.out]; simp
      ·rw [HE2.out, HC.out]
      ·rw [List.length_append, HDL.out]; simp; omega
     case measure =>
      rw [HLA.out, hla5.out, HDL.out]; omega
end
section
variable {T : TypeId} {R : List Value}
theorem strm_at {w : World} {g : Nat} {x : List Int} (h : Strm T R w g x) (h3 : x.length ≤ 3) : ∃ u, w.cell? ⟨g, x.length, none⟩ = some (.int .u8 u) := by
 obtain ⟨b, hb, hw, _, _⟩ := h
 refine ⟨b[x.length]'(by omega), ?_⟩
 rw [hw.cell, List.getElem?_append_left (by simp; omega)]
 simp [List.getElem?_eq_getElem (show x.length < b.length by omega)]
theorem strm_push {w : World} {g : Nat} {x : List Int} (h : Strm T R w g x) (h3 : x.length ≤ 3) (c : Int) :
  (w.setCell ⟨g, x.length, none⟩ (.int .u8 c)).cell? ⟨g, 4, none⟩ = some (.int .i64 x.length) ∧ (∀ i, (w.setCell ⟨g, x.length, none⟩ (.int .u8 c)).frozen? ⟨g, i, none⟩ = false) ∧
   Strm T R ((w.setCell ⟨g, x.length, none⟩ (.int .u8 c)).setCell ⟨g, 4, none⟩ (.int .i64 ((x.length : Int) + 1))) g (x ++ [c]) := by
 obtain ⟨b, hb, hw, ht, _⟩ := h
 have h1 := hw.put x.length (.int .u8 c)
 rw [List.set_append_left _ _ (by simp; omega), ← List.map_set] at h1
 refine ⟨h1.cell4 (by simp [hb]), fun i => h1.frozen i, ?_⟩
 refine ⟨b.set x.length c, by simp [hb], ?_, ?_, by simp; omega⟩
 ·have h2 := h1.put 4 (.int .i64 ((x.length : Int) + 1))
  rw [List.set_append_right _ _ (by simp [hb])] at h2
  simp [hb] at h2
  simpa using h2
 ·rw [List.length_append]
  simp only [List.length_cons, List.length_nil, Nat.zero_add]
  rw [List.take_succ_eq_append_getElem (by simp; omega)]
  have e : (b.set x.length c).take x.length = x := by
   rw [List.take_set_of_le (Nat.le_refl _)]; exact ht
  rw [e]
  simp
theorem uclone_any (A : Option Addr) (n c : Nat) (bs : List Int) (w : World) (h : Ints .u8 w A bs) (hn : bs.length = n) (hlen : n ≤ 1000000) (hA : A ≠ none := by simp) :
  Calls Tryz.prog 188 #[.slice A n c] w (Made 5 .u8 w bs) := by
 have HN := hide hn; clear hn
 cases A with
 | none => exact absurd rfl hA
 | some ad =>
  obtain rfl : bs.length = n := HN.out
  clear HN hA
  have e0 := fun W => Lib.run_eql_slice_nil (P := Tryz.prog) W 34 5 (some ad) bs.length c 0 0 Tryz.underlying34
  have ho := Own.empty w 5 .u8
  have hi := h.alloc (.cells #[] 5)
  clear h
  go_enter Tryz.func188, Tryz.ntmps188
  go_wp2_with (at_builtin; refine wpList_cat elemBytes rfl _ _ rfl rfl rfl ho hi rfl (fun h => by cases h) (by simpa using hlen) (by omega) ?_; intro v' w2 hown2)
  go_ret
  exact ⟨_, rfl, hown2⟩
theorem held_any (g : Nat) (h : List Int) (w : World) (hs : Strm T R w g h) : Calls Tryz.prog 165 #[.pointer (some ⟨g, 0, none⟩)] w (Made 5 .u8 w h) := by
 have hxn := hs.len
 have hm4 := hs.four
 have hlt := hs.lt
 obtain ⟨m, hm⟩ := exq (h.length)
 rw [hm] at hxn hm4
 have HM := hide hm; clear hm
 have m0 : (0 : Int) ≤ (m : Int) := by omega
 have m4 : (m : Int) ≤ 4 := by omega
 have hxd : w.drew.cell? ⟨g, 4, none⟩ = some (.int .i64 m) := hxn
 have hxi : Ints .u8 w.drew (some ⟨g, 0, none⟩) h := (hs.drewN 1).ints
 have hb0 : Below w.heap.size w w.drew := (Below.refl _ _).drewN 1
 go_enter Tryz.func165, Tryz.ntmps165
 go_wp2
 refine rgC [(true, [0]), (true, [3]), (true, [1]), (true, [2]), (false, [4, 5, 6, 7, 8, 9])] ?_
 generalize w.drew = w2 at *
 iterate 4 refine stC (h := ?_)
 refine alC fun K hK => ?_
 go_wp2_with fail
 refine (uclone_any _ m 4 h w2 hxi HM.out (by omega)).mono ?_
 rintro e w1 ⟨v, rfl, hv⟩
 go_wp2
 refine hK.out _ _ ?_
 clear hK K
 refine chain_nil ?_
 go_wp2; go_ret
 have hb1 := hb0.trans (hv.bel.mono hb0.size)
 exact ⟨_, rfl, ⟨(show _ from ⟨hv.own.1, by
  rcases hv.own.2 with h0 | ⟨g', cap, cur, hv', hB, hh⟩
  ·exact .inl h0
  ·exact .inr ⟨g', cap, cur, hv', Nat.le_trans hb0.size hB, hh⟩⟩), hb1, hb1.size⟩⟩
def flushed (h : List Int) : List Int := if h = [] then [] else [65533]
theorem flush_any (g : Nat) (h : List Int) (w : World) (hs : Strm T R w g h) :
  Calls Tryz.prog 133 #[.pointer (some ⟨g, 0, none⟩)] w fun e w' => ∃ v, e = .returned v ∧ Own 21 .i32 w.heap.size w' w' v (flushed h) ∧ Strm T R w' g [] ∧ Fr w.heap.size g w w' := by
 have hxn := hs.len
 have hlt := hs.lt
 have hz := hs.frozen 4
 by_cases h0 : h = []
 ·subst h0
  simp only [List.length_nil] at hxn
  have hxn' : w.cell? ⟨g, 4, none⟩ = some (.int .i64 0) := hxn
  go_enter Tryz.func133, Tryz.ntmps133
  go_wp2; go_ret
  exact ⟨_, rfl, Own.start (Nat.le_refl _), hs, Fr.refl⟩
 ·have hp : 0 < h.length := List.length_pos_iff.2 h0
  have hne : ((h.length : Int) == 0) = false := by simp; exact h0
  have HF : Hid (flushed h = [65533]) := by unfold Hid flushed; rw [if_neg h0]
  obtain ⟨b, hb, hw, ht, h4⟩ := hs
  have hs5 : Strm T R (w.setCell ⟨g, 4, none⟩ (.int .i64 0)) g [] := strm_put0 hw hb rfl
  have hf5 : Fr w.heap.size g w (w.setCell ⟨g, 4, none⟩ (.int .i64 0)) := Fr.put 4 _
  have hsz : (w.setCell ⟨g, 4, none⟩ (.int .i64 0)).heap.size = w.heap.size := by simp [World.setCell]
  have HSZ := hide hsz; clear hsz hw hb ht h0
  obtain ⟨n, hn⟩ := exq (h.length)
  rw [hn] at hxn hne
  clear hn hp h4
  go_enter Tryz.func133, Tryz.ntmps133
  go_wp2; go_ret
  have hl := Own.lit (w.setCell ⟨g, 4, none⟩ (.int .i64 0)) 21 .i32 [65533] 1 rfl (by omega)
  have hbl := hl.bel
  rw [HSZ.out] at hl hbl
  refine ⟨_, rfl, ?_, hs5.below hbl hlt, hf5.trans (Fr.of_below hbl)⟩
  rw [HF.out]
  exact hl.now
theorem feed_any (g : Nat) (h bs : List Int) (A : Option Addr) (n c : Nat) (w : World) (hs : Strm T R w g h) (hh : (first h).2 = 0) (hby : Byte h) (hb : Byte bs) (hi : Ints .u8 w A bs) (hn : bs.length = n) (hl : n ≤ 100) (hA : ∀ ad, A = some ad → 0 < n → ad.block ≠ g) :
  Calls Tryz.prog 134 #[.pointer (some ⟨g, 0, none⟩), .slice A n c] w fun e w' => ∃ v, e = .returned v ∧ Own 21 .i32 w.heap.size w' w' v (cut (h ++ bs)).1 ∧ Strm T R w' g (cut (h ++ bs)).2 ∧ Fr w.heap.size g w w' := by
 have hlt0 := hs.lt
 have h04 := hs.four
 have HN := hide hn; have HA := hide hA
 have HC0 : Hid (cut h = ([], h)) := cut_held hh
 clear hn hA hh
 go_enter Tryz.func134, Tryz.ntmps134
 go_wp2
 go_loopw [5, 7, 12] (fun l _ i wr => ∃ k : Nat, k ≤ n ∧ i = .int .i64 k ∧ Own 21 .i32 w.heap.size wr wr l (cut (h ++ bs.take k)).1 ∧ Strm T R wr g (cut (h ++ bs.take k)).2 ∧ Fr w.heap.size g w wr) (fun _ _ i _ => n - (intOf i).toNat)
 case atStart =>
  refine ⟨0, Nat.zero_le _, rfl, ?_, ?_, Fr.refl⟩
  ·rw [List.take_zero, List.append_nil, HC0.out]; exact Own.start (Nat.le_refl _)
  ·rw [List.take_zero, List.append_nil, HC0.out]; exact hs
 case round =>
  obtain ⟨k, hk, rfl, hown, hst, hfr⟩ := hrel
  by_cases hlt : k < n
  ·obtain ⟨b, off, rfl, hc, hb0⟩ := hi.at (i := k) (by rw [HN.out]; exact hlt)
   have hbg := HA.out _ rfl (by omega)
   obtain ⟨cc, hcc, hcc2⟩ := getD_byte bs hb k (by rw [HN.out]; exact hlt)
   have hcw : wr.cell? ⟨b, off + k, none⟩ = some (.int .u8 cc) := by
    have e : wr.cell? ⟨b, off + k, none⟩ = w.cell? ⟨b, off + k, none⟩ := by simp only [World.cell?, hfr.block b hb0 hbg]
    rw [e, hc, hcc]
   have HTK := hide (take_snoc bs k cc (by rw [HN.out]; exact hlt) hcc)
   clear hcc hc
   have hbt : Byte (h ++ bs.take k) := hby.append (hb.take k)
   have hx3 := first_held_len _ (cut_rest (h ++ bs.take k))
   have hxb := cut_byte _ hbt
   have hal := cut_len (h ++ bs.take k)
   have HCA := hide (cut_append' (h ++ bs.take k) [(cc : Int)])
   have hlk : (h ++ bs.take k).length ≤ 4 + k := by rw [List.length_append, List.length_take]; omega
   obtain ⟨ac, x, hcx⟩ : ∃ ac x, cut (h ++ bs.take k) = (ac, x) := ⟨_, _, rfl⟩
   rw [hcx] at hown hst hx3 hxb hal
   have HCX := hide hcx; clear hcx
   simp only at hown hst hx3 hxb hal
   have hxl := hst.len
   have hz := hst.frozen x.length
   obtain ⟨u, hu⟩ := strm_at hst hx3
   obtain ⟨p1, p2, p3⟩ := strm_push (hst.drewN 1) hx3 (cc : Int)
   have p2' := p2 4
   have hf1 : Fr w.heap.size g w ((wr.drewN 1).setCell ⟨g, x.length, none⟩ (.int .u8 cc)) := (hfr.drewN 1).trans (Fr.put _ _)
   have hgt : ∀ i, w.heap.size ≤ i → ((wr.drewN 1).setCell ⟨g, x.length, none⟩ (.int .u8 cc)).heap[i]? = wr.heap[i]? := fun i hi => Below.heap_setCell _ _ _ _ (by simp; omega)
   have ho1 := hown.keep (fun i hi _ => hgt i hi) (by simp [World.setCell, World.drewN])
   obtain ⟨m, hm⟩ := exq (x.length)
   rw [hm] at hx3 hxl hz hu p1 p2' p3 hf1 ho1
   have HM := hide hm; clear hm p2 hgt
   have hxl2 : wr.drew.cell? ⟨g, 4, none⟩ = some (.int .i64 m) := hxl
   have hz2 : wr.drew.frozen? ⟨g, m, none⟩ = false := hz
   have hu2 : wr.drew.cell? ⟨g, m, none⟩ = some (.int .u8 u) := hu
   have m0 : (0 : Int) ≤ (m : Int) := by omega
   have m4 : (m : Int) < 4 := by omega
   replace p1 : (wr.drew.setCell ⟨g, m, none⟩ (.int .u8 cc)).cell? ⟨g, 4, none⟩ = some (.int .i64 m) := p1
   replace p2' : (wr.drew.setCell ⟨g, m, none⟩ (.int .u8 cc)).frozen? ⟨g, 4, none⟩ = false := p2'
   replace p3 : Strm T R ((wr.drew.setCell ⟨g, m, none⟩ (.int .u8 cc)).setCell ⟨g, 4, none⟩ (.int .i64 ((m : Int) + 1))) g (x ++ [(cc : Int)]) := p3
   replace hf1 : Fr w.heap.size g w (wr.drew.setCell ⟨g, m, none⟩ (.int .u8 cc)) := hf1
   replace ho1 : Own 21 .i32 w.heap.size (wr.drew.setCell ⟨g, m, none⟩ (.int .u8 cc)) (wr.drew.setCell ⟨g, m, none⟩ (.int .u8 cc)) _ ac := ho1
   go_wp2
   refine rgC [(true, [0]), (true, [1]), (true, [5]), (true, [2]), (true, [3]), (true, [6]), (true, [7]), (false, [4, 8, 9])] ?_
   generalize wr.drew = w2 at *
   iterate 7 refine stC (h := ?_)
   refine alC fun K hK => ?_
   go_wp2
   refine hK.out _ _ ?_
   clear hK K
   refine chain_nil ?_
   generalize w2.setCell ⟨g, m, none⟩ (.int .u8 cc) = w3 at *
   have ho2 := ho1.keep (w1 := w3.setCell ⟨g, 4, none⟩ (.int .i64 ((m : Int) + 1))) (fun i hi _ => Below.heap_setCell _ _ _ _ (by simp; omega)) (by simp [World.setCell])
   have hf2 := hf1.trans (Fr.put (B := w.heap.size) (g := g) (w := w3) 4 (.int .i64 ((m : Int) + 1)))
   go_wp2_with fail
   refine (tell_any g w.heap.size (x ++ [(cc : Int)]) ac _ _ p3 hlt0 ho2 (hxb.append (by intro y hy; simp at hy; omega)) (by omega)).mono ?_
   rintro e w4 ⟨v4, rfl, ho4, hs4, hf4⟩
   go_wp2
   go_roundw
   case rel =>
    have e := HCA.out
    rw [HCX.out] at e
    simp only at e
    refine ⟨k + 1, by omega, by go_num, ?_, ?_, hf2.trans hf4⟩
    ·rw [HTK.out, ← List.append_assoc, e]; exact ho4
    ·rw [HTK.out, ← List.append_assoc, e]; exact hs4
   case measure => simp [intOf]; omega
  ·have HTK : Hid (bs.take k = bs) := by unfold Hid; exact List.take_of_length_le (by rw [HN.out]; omega)
   rw [HTK.out] at hown hst
   go_wp2; go_ret
   exact ⟨_, rfl, hown, hst, hfr⟩
end
end
end Go.Proofs.YtkijclgbpbhglaaGreatDoor
