/-
  Contracts: the scalar of whole bytes, the first one of any.
-/
import Derived.Test.YtfngnmopdfojmaaUDec
namespace Go.Proofs.Ytfngnmopdfojmaa
set_option maxRecDepth 100000
open Go.ChangeShapes Go.WideShapes Go.ChangeAt Go.RowKit
set_option linter.unusedVariables false

set_option maxHeartbeats 400000 in
theorem behind_any (r c : Int) (w : World) (h0 : 0 ≤ r) (h1 : r ≤ 17407) (h2 : 128 ≤ c) (h3 : c ≤ 191) : Calls Try.prog 61 #[.int .i32 r, .int .u8 c] w fun e w' => e = .returned (.int .i32 (r * 64 + (c - 128))) ∧ w' = w := by
  have E : Hid (r * 64 + c % 64 = r * 64 + (c - 128)) := by unfold Hid; omega
  go_enter Try.func61, Try.ntmps61
  go_wp2
  go_ret
  exact ⟨ret_int E.out, rfl⟩

theorem not192_all : ∀ m : Fin 32, bits .andNot .i32 ((192 + m.val : Nat) : Int) 192 = ((m.val : Nat) : Int) := by decide +kernel
theorem not224_all : ∀ m : Fin 16, bits .andNot .i32 ((224 + m.val : Nat) : Int) 224 = ((m.val : Nat) : Int) := by decide +kernel
theorem not240_all : ∀ m : Fin 8, bits .andNot .i32 ((240 + m.val : Nat) : Int) 240 = ((m.val : Nat) : Int) := by decide +kernel
theorem not192 (a : Int) (h : 192 ≤ a) (h2 : a < 224) : bits .andNot .i32 a 192 = a - 192 := by
  have := not192_all ⟨(a - 192).toNat, by omega⟩
  rw [show ((192 + (a - 192).toNat : Nat) : Int) = a by omega] at this
  rw [this]; simp only; omega
theorem not224 (a : Int) (h : 224 ≤ a) (h2 : a < 240) : bits .andNot .i32 a 224 = a - 224 := by
  have := not224_all ⟨(a - 224).toNat, by omega⟩
  rw [show ((224 + (a - 224).toNat : Nat) : Int) = a by omega] at this
  rw [this]; simp only; omega
theorem not240 (a : Int) (h : 240 ≤ a) (h2 : a ≤ 244) : bits .andNot .i32 a 240 = a - 240 := by
  have := not240_all ⟨(a - 240).toNat, by omega⟩
  rw [show ((240 + (a - 240).toNat : Nat) : Int) = a by omega] at this
  rw [this]; simp only; omega

set_option maxHeartbeats 400000 in
theorem lead1 (B off : Nat) (c : Nat) (a : Int) (w : World) (hc : w.cell? ⟨B, off, none⟩ = some (.int .u8 a)) (h0 : 0 ≤ a) (h1 : a ≤ 127) :
    Calls Try.prog 60 #[.slice (some ⟨B, off, none⟩) 1 c] w fun e w' => e = .returned (.int .i32 a) ∧ w = w' := by
  go_enter Try.func60, Try.ntmps60
  go_wp2
  go_ret
  exact ⟨rfl, rfl⟩
set_option maxHeartbeats 400000 in
theorem lead2 (B off : Nat) (c : Nat) (a : Int) (w : World) (hc : w.cell? ⟨B, off, none⟩ = some (.int .u8 a)) (h0 : 194 ≤ a) (h1 : a < 224) :
    Calls Try.prog 60 #[.slice (some ⟨B, off, none⟩) 2 c] w fun e w' => e = .returned (.int .i32 (a - 192)) ∧ w = w' := by
  have E := hide (not192 a (by omega) h1)
  go_enter Try.func60, Try.ntmps60
  go_wp2
  go_ret
  exact ⟨ret_int E.out, rfl⟩
set_option maxHeartbeats 400000 in
theorem lead3 (B off : Nat) (c : Nat) (a : Int) (w : World) (hc : w.cell? ⟨B, off, none⟩ = some (.int .u8 a)) (h0 : 224 ≤ a) (h1 : a < 240) :
    Calls Try.prog 60 #[.slice (some ⟨B, off, none⟩) 3 c] w fun e w' => e = .returned (.int .i32 (a - 224)) ∧ w = w' := by
  have E := hide (not224 a h0 h1)
  go_enter Try.func60, Try.ntmps60
  go_wp2
  go_ret
  exact ⟨ret_int E.out, rfl⟩
set_option maxHeartbeats 400000 in
theorem lead4 (B off : Nat) (c : Nat) (a : Int) (w : World) (hc : w.cell? ⟨B, off, none⟩ = some (.int .u8 a)) (h0 : 240 ≤ a) (h1 : a ≤ 244) :
    Calls Try.prog 60 #[.slice (some ⟨B, off, none⟩) 4 c] w fun e w' => e = .returned (.int .i32 (a - 240)) ∧ w = w' := by
  have E := hide (not240 a h0 h1)
  go_enter Try.func60, Try.ntmps60
  go_wp2
  go_ret
  exact ⟨ret_int E.out, rfl⟩

theorem cells_at {A : Option Addr} {w : World} {x : List Int} (h : Ints .u8 w A x) (hx : 0 < x.length) : ∃ B off, A = some ⟨B, off, none⟩ ∧ ∀ i, i < x.length → w.cell? ⟨B, off + i, none⟩ = some (.int .u8 (x.getD i 0)) := by
  rcases h with h | ⟨B, off, ha, hc⟩
  · rw [h] at hx; simp at hx
  · exact ⟨B, off, ha, hc⟩

set_option maxHeartbeats 1000000 in
theorem join_any (A : Option Addr) (n c : Nat) (p : List Int) (w : World) (hp : Ints .u8 w A p) (hn : p.length = n) (hc : n ≤ c) (hcm : c ≤ maxLen) (hf : Full p) :
    Calls Try.prog 57 #[.slice A n c] w (Num .i32 (joinV p) w) := by
  unfold maxLen at hcm
  subst hn
  obtain ⟨x, hx⟩ : ∃ x, joinV p = x := ⟨_, rfl⟩
  rw [hx]
  cases hf with
  | @one a h0 h =>
    obtain ⟨B, off, rfl, hcell⟩ := cells_at hp (by simp)
    have c0 := hcell 0 (by simp)
    simp only [List.getD_cons_zero, Nat.add_zero] at c0
    simp only [List.length_cons, List.length_nil, Nat.zero_add] at hc ⊢
    have HX := hide hx
    clear hcell hp hx
    by_cases hc1 : c = 1
    · subst hc1
      go_enter Try.func57, Try.ntmps57
      go_wp2_with (go_at_call 60; refine (lead1 B off _ a w c0 h0 h).mono ?_; rintro e w' ⟨rfl, rfl⟩)
      go_ret
      exact ⟨ret_int (by rw [← HX.out]; rfl), Below.refl _ _⟩
    · go_enter Try.func57, Try.ntmps57
      go_wp2_with (go_at_call 60; refine (lead1 B off _ a w c0 h0 h).mono ?_; rintro e w' ⟨rfl, rfl⟩)
      go_ret
      exact ⟨ret_int (by rw [← HX.out]; rfl), Below.refl _ _⟩
  | @two a b h h1 =>
    obtain ⟨B, off, rfl, hcell⟩ := cells_at hp (by simp)
    have c0 := hcell 0 (by simp)
    have c1 := hcell 1 (by simp)
    simp only [List.getD_cons_zero, List.getD_cons_succ, Nat.add_zero] at c0 c1
    simp only [List.length_cons, List.length_nil, Nat.zero_add, Nat.reduceAdd] at hc ⊢
    obtain ⟨c', rfl⟩ : ∃ c', c = c' + 2 := ⟨c - 2, by omega⟩
    have HX : Hid ((a - 192) * 64 + (b - 128) = x) := by unfold Hid; rw [← hx]; simp only [joinV]; omega
    clear hcell hp hx
    obtain ⟨h2, h3⟩ := h
    obtain ⟨h4, h5⟩ := h1
    go_enter Try.func57, Try.ntmps57
    go_wp2_with (first | (go_at_call 60; refine (lead2 B off _ a w c0 h2 h3).mono ?_; rintro e w' ⟨rfl, rfl⟩) | (go_at_call 61; refine (behind_any _ _ _ (by omega) (by omega) (by omega) (by omega)).mono ?_; rintro e w' ⟨rfl, rfl⟩))
    go_ret
    exact ⟨ret_int HX.out, Below.refl _ _⟩
  | @three a b d h h1 h2 =>
    obtain ⟨B, off, rfl, hcell⟩ := cells_at hp (by simp)
    have c0 := hcell 0 (by simp)
    have c1 := hcell 1 (by simp)
    have c2 := hcell 2 (by simp)
    simp only [List.getD_cons_zero, List.getD_cons_succ, Nat.add_zero] at c0 c1 c2
    simp only [List.length_cons, List.length_nil, Nat.zero_add, Nat.reduceAdd] at hc ⊢
    obtain ⟨c', rfl⟩ : ∃ c', c = c' + 3 := ⟨c - 3, by omega⟩
    have HX : Hid (((a - 224) * 64 + (b - 128)) * 64 + (d - 128) = x) := by unfold Hid; rw [← hx]; simp only [joinV]; omega
    clear hcell hp hx
    have l1 := lo2_inv a
    have l2 := hi2_inv a
    obtain ⟨g1, g2⟩ := h
    obtain ⟨g3, g4⟩ : 128 ≤ b ∧ b ≤ 191 := by omega
    obtain ⟨g5, g6⟩ := h2
    clear l1 l2 h1
    go_enter Try.func57, Try.ntmps57
    go_wp2_with (go_at_call 60; refine (lead3 B off _ a w c0 g1 g2).mono ?_; rintro e w' ⟨rfl, rfl⟩)
    go_quiet ((go_at_call 61; exact Calls.quiet_of_same (behind_any _ _ _ (by omega) (by omega) (by omega) (by omega))))
    have hb0 : Below w.heap.size w (w.drewN nq) := (Below.refl _ _).drewN _
    have d2 : (w.drewN nq).cell? ⟨B, off + 2, none⟩ = some (.int .u8 d) := c2
    generalize w.drewN nq = w0 at *
    go_wp2_with (go_at_call 61; refine (behind_any _ _ _ (by omega) (by omega) (by omega) (by omega)).mono ?_; rintro e w' ⟨rfl, rfl⟩)
    go_ret
    exact ⟨ret_int HX.out, hb0⟩
  | @four a b d f h h1 h2 h3 =>
    obtain ⟨B, off, rfl, hcell⟩ := cells_at hp (by simp)
    have c0 := hcell 0 (by simp)
    have c1 := hcell 1 (by simp)
    have c2 := hcell 2 (by simp)
    have c3 := hcell 3 (by simp)
    simp only [List.getD_cons_zero, List.getD_cons_succ, Nat.add_zero] at c0 c1 c2 c3
    simp only [List.length_cons, List.length_nil, Nat.zero_add, Nat.reduceAdd] at hc ⊢
    obtain ⟨c', rfl⟩ : ∃ c', c = c' + 4 := ⟨c - 4, by omega⟩
    have HX : Hid ((((a - 240) * 64 + (b - 128)) * 64 + (d - 128)) * 64 + (f - 128) = x) := by unfold Hid; rw [← hx]; simp only [joinV]; omega
    clear hcell hp hx
    have l1 := lo2_inv a
    have l2 := hi2_inv a
    obtain ⟨g1, g2⟩ := h
    obtain ⟨g3, g4⟩ : 128 ≤ b ∧ b ≤ 191 := by omega
    have g7 : (a - 240) * 64 + (b - 128) ≤ 271 := by omega
    obtain ⟨g5, g6⟩ := h2
    obtain ⟨g8, g9⟩ := h3
    clear l1 l2 h1
    go_enter Try.func57, Try.ntmps57
    go_wp2_with (go_at_call 60; refine (lead4 B off _ a w c0 g1 g2).mono ?_; rintro e w' ⟨rfl, rfl⟩)
    go_quiet ((go_at_call 61; exact Calls.quiet_of_same (behind_any _ _ _ (by omega) (by omega) (by omega) (by omega))))
    have hb0 : Below w.heap.size w (w.drewN nq) := (Below.refl _ _).drewN _
    have d2 : (w.drewN nq).cell? ⟨B, off + 2, none⟩ = some (.int .u8 d) := c2
    have d3 : (w.drewN nq).cell? ⟨B, off + 3, none⟩ = some (.int .u8 f) := c3
    generalize w.drewN nq = w0 at *
    go_wp2
    go_quiet ((go_at_call 61; exact Calls.quiet_of_same (behind_any _ _ _ (by omega) (by omega) (by omega) (by omega))))
    have hb1 : Below w.heap.size w (w0.drewN nq) := hb0.drewN _
    have e3 : (w0.drewN nq).cell? ⟨B, off + 3, none⟩ = some (.int .u8 f) := d3
    generalize w0.drewN nq = w1 at *
    go_wp2_with (go_at_call 61; refine (behind_any _ _ _ (by omega) (by omega) (by omega) (by omega)).mono ?_; rintro e w' ⟨rfl, rfl⟩)
    go_ret
    exact ⟨ret_int HX.out, hb1⟩

/-- The call answered with two numbers, and left all that was there. -/
def Pair2 (r : Int) (n : Nat) (w : World) (e : Ending) (w' : World) : Prop := e = .returned (.tuple #[.int .i32 r, .int .i64 n]) ∧ Below w.heap.size w w'

set_option maxHeartbeats 1000000 in
theorem first_any (A : Option Addr) (n c : Nat) (b : List Int) (w : World) (hb : Ints .u8 w A b) (hn : b.length = n) (hc : n ≤ c) (hcm : c ≤ maxLen) (hl : n ≤ 1000000) (hy : Byte b) :
    Calls Try.prog 51 #[.slice A n c] w (Pair2 (first b).1 (first b).2 w) := by
  cases b with
  | nil =>
    obtain rfl : n = 0 := by simpa using hn.symm
    clear hn hb hy
    go_enter Try.func51, Try.ntmps51
    go_wp2
    go_ret2
    exact ⟨rfl, Below.refl _ _⟩
  | cons a r =>
    obtain ⟨B, off, rfl, c0, hB⟩ := hb.at (i := 0) (by simp)
    simp only [List.getD_cons_zero, Nat.add_zero] at c0
    obtain ⟨a0, a1⟩ := hy a (by simp)
    have hn0 : 0 < n := by rw [← hn]; simp
    have hfl := fit_le (a :: r)
    have hfs := fit_sz a r
    rw [hn] at hfl
    have hne : ((n : Int) == 0) = false := by simp; omega
    have HN := hide hn
    clear hn
    obtain ⟨F, hF⟩ : ∃ F, fit (a :: r) = F := ⟨_, rfl⟩
    obtain ⟨S, hS⟩ : ∃ S, sz a = S := ⟨_, rfl⟩
    rw [hF] at hfl hfs
    rw [hS] at hfs
    have HF := hide hF
    have HS := hide hS
    clear hF hS
    by_cases h0 : F = 0
    · have HFST : Hid (first (a :: r) = (65533, 1)) := first_zero (by rw [HF.out]; exact h0)
      subst h0
      go_enter Try.func51, Try.ntmps51
      go_wp2_with fail
      refine (size_any a w a0 a1).mono ?_
      rintro e w' ⟨rfl, rfl⟩
      go_wp2_with fail
      refine (fitting_any _ n c a r w hb HN.out hl hy).mono ?_
      rintro e w' ⟨rfl, rfl⟩
      rw [HF.out]
      go_wp2
      go_ret2
      exact ⟨by rw [HFST.out]; rfl, Below.refl _ _⟩
    · have h0' : ((F : Int) == 0) = false := by simp; omega
      by_cases h1 : F = S
      · have HFU := hide (take_full a0 (by rw [HF.out]; exact h0) (by rw [HF.out, HS.out]; exact h1))
        have HFST : Hid (first (a :: r) = (joinV ((a :: r).take F), F)) := by
          have := first_whole (c := a) (r := r) (by rw [HF.out]; exact h0) (by rw [HF.out, HS.out]; exact h1)
          rw [HF.out] at this; exact this
        subst h1
        have k1 : (0 : Int) ≤ (F : Int) := by omega
        have k2 : (F : Int) ≤ (c : Int) := by omega
        go_enter Try.func51, Try.ntmps51
        go_wp2_with fail
        refine (size_any a w a0 a1).mono ?_
        rintro e w' ⟨rfl, rfl⟩
        go_wp2_with fail
        refine (fitting_any _ n c a r w hb HN.out hl hy).mono ?_
        rintro e w' ⟨rfl, rfl⟩
        rw [HF.out, HS.out]
        go_wp2_with fail
        refine (join_any _ F c ((a :: r).take F) w (hb.take F) ?_ (by omega) hcm ?_).mono ?_
        · rw [List.length_take, HN.out]; omega
        · have := HFU.out.1; rw [HF.out] at this; exact this
        rintro e w1 ⟨rfl, hb1⟩
        go_wp2
        go_ret2
        exact ⟨by rw [HFST.out]; rfl, hb1⟩
      · have h1' : ((F : Int) == (S : Int)) = false := by simp; omega
        by_cases h2 : F = n
        · have HFST : Hid (first (a :: r) = (0, 0)) := first_held (by rw [HF.out, HS.out]; exact h1) (by rw [HF.out, HN.out]; exact h2)
          subst h2
          go_enter Try.func51, Try.ntmps51
          go_wp2_with fail
          refine (size_any a w a0 a1).mono ?_
          rintro e w' ⟨rfl, rfl⟩
          go_wp2_with fail
          refine (fitting_any _ F c a r w hb HN.out hl hy).mono ?_
          rintro e w' ⟨rfl, rfl⟩
          rw [HF.out, HS.out]
          go_wp2
          go_ret2
          exact ⟨by rw [HFST.out]; rfl, Below.refl _ _⟩
        · have h2' : ((F : Int) == (n : Int)) = false := by simp; omega
          have HFST : Hid (first (a :: r) = (65533, F)) := by
            have := first_broken (c := a) (r := r) (by rw [HF.out]; exact h0) (by rw [HF.out, HS.out]; exact h1) (by rw [HF.out, HN.out]; exact h2)
            rw [HF.out] at this; exact this
          go_enter Try.func51, Try.ntmps51
          go_wp2_with fail
          refine (size_any a w a0 a1).mono ?_
          rintro e w' ⟨rfl, rfl⟩
          go_wp2_with fail
          refine (fitting_any _ n c a r w hb HN.out hl hy).mono ?_
          rintro e w' ⟨rfl, rfl⟩
          rw [HF.out, HS.out]
          go_wp2
          go_ret2
          exact ⟨by rw [HFST.out]; rfl, Below.refl _ _⟩
end Go.Proofs.Ytfngnmopdfojmaa
