/-
  Contracts: is a half alone (both).
-/
import Derived.Test.YtdeoeihbmdgipaaDoorLMem
namespace Go.Proofs.YtdeoeihbmdgipaaDoor
open Go.ChangeShapes Go.WideShapes Go.ChangeAt Go.RowKit
set_option linter.unusedVariables false

theorem alone_a {cs : List Cel} {k : Nat} (h : wAt cs k = 2) (h1 : wAt cs (k + 1) ≠ 0) : aloneC cs k = true := by unfold aloneC; rw [if_pos h]; simpa using h1
theorem alone_b {cs : List Cel} {k : Nat} (h : wAt cs k = 2) (h1 : wAt cs (k + 1) = 0) : aloneC cs k = false := by unfold aloneC; rw [if_pos h]; simpa using h1
theorem alone_d {cs : List Cel} {k : Nat} (h : wAt cs k = 0) (h1 : k = 0 ∨ wAt cs (k - 1) ≠ 2) : aloneC cs k = true := by unfold aloneC; rw [if_neg (by omega), if_pos h]; simpa using h1
theorem alone_e {cs : List Cel} {k : Nat} (h : wAt cs k = 0) (h0 : k ≠ 0) (h1 : wAt cs (k - 1) = 2) : aloneC cs k = false := by unfold aloneC; rw [if_neg (by omega), if_pos h]; simp [h0, h1]
theorem alone_g {cs : List Cel} {k : Nat} (h : wAt cs k ≠ 2) (h1 : wAt cs k ≠ 0) : aloneC cs k = false := by unfold aloneC; rw [if_neg h, if_neg h1]
/-- The width at a place, as it lies. -/
theorem Cels.wide {q : IntKind} {w : World} {b off : Nat} {cs : List Cel} (h : Cels q w (some ⟨b, off, none⟩) cs) (k : Nat) (hk : k < cs.length) : w.cell? ⟨b, off + k * 7 + 3, none⟩ = some (.int .u8 (wAt cs k : Int)) := by
  obtain ⟨b', off', e, _, hc⟩ := h.at hk
  cases e
  rw [wAt_in cs k hk]
  exact hc 3 _ rfl
set_option maxHeartbeats 1000000 in
theorem alone_any (A : Option Addr) (n c k : Nat) (cs : List Cel) (w : World) (h : Cels .i32 w A cs) (hn : cs.length = n) (hk : k < n) (hl : n ≤ 1000000) : Calls Tryd.prog 40 #[.slice A n c, .int .i64 (k : Int)] w fun e w' => e = .returned (.bool (aloneC cs k)) ∧ w = w' := by
  obtain ⟨b, off, rfl, hb, -⟩ := h.at (i := k) (by omega)
  have c3 := h.wide k (by omega)
  by_cases h2 : wAt cs k = 2
  · have e2 : ((wAt cs k : Int) == 2) = true := by simp; omega
    by_cases hk1 : k + 1 = n
    · have H := hide (alone_a h2 (by rw [wAt_out cs (k + 1) (by omega)]; omega))
      have e3 : ((k : Int) == (n : Int) - 1) = true := by simp; omega
      have e4 : ((k : Int) + 1 == (n : Int)) = true := by simp; omega
      clear h2 hk1 h
      go_enter Tryd.func40, Tryd.ntmps40
      go_wp2
      go_ret
      exact ⟨ret_bool H.out.symm, rfl⟩
    · have c4 := h.wide (k + 1) (by omega)
      have e3 : ((k : Int) == (n : Int) - 1) = false := by simp; omega
      have e4 : ((k : Int) + 1 == (n : Int)) = false := by simp; omega
      by_cases h0 : wAt cs (k + 1) = 0
      · have H := hide (alone_b h2 h0)
        have e5 : ((wAt cs (k + 1) : Int) != 0) = false := by simp; omega
        clear h2 h0 h
        go_enter Tryd.func40, Tryd.ntmps40
        go_wp2
        go_ret
        exact ⟨ret_bool H.out.symm, rfl⟩
      · have H := hide (alone_a h2 h0)
        have e5 : ((wAt cs (k + 1) : Int) != 0) = true := by simp; omega
        clear h2 h0 h
        go_enter Tryd.func40, Tryd.ntmps40
        go_wp2
        go_ret
        exact ⟨ret_bool H.out.symm, rfl⟩
  · have e2 : ((wAt cs k : Int) == 2) = false := by simp; omega
    by_cases h0 : wAt cs k = 0
    · have e1 : ((wAt cs k : Int) == 0) = true := by simp; omega
      by_cases hk0 : k = 0
      · have H := hide (alone_d h0 (.inl hk0))
        have e3 : ((k : Int) == 0) = true := by simp; omega
        clear h2 h0 h hk0
        go_enter Tryd.func40, Tryd.ntmps40
        go_wp2
        go_ret
        exact ⟨ret_bool H.out.symm, rfl⟩
      · have c4 := h.wide (k - 1) (by omega)
        have e3 : ((k : Int) == 0) = false := by simp; omega
        by_cases hp : wAt cs (k - 1) = 2
        · have H := hide (alone_e h0 hk0 hp)
          have e5 : ((wAt cs (k - 1) : Int) != 2) = false := by simp; omega
          clear h2 h0 h hp
          go_enter Tryd.func40, Tryd.ntmps40
          go_wp2
          go_ret
          exact ⟨ret_bool H.out.symm, rfl⟩
        · have H := hide (alone_d h0 (.inr hp))
          have e5 : ((wAt cs (k - 1) : Int) != 2) = true := by simp; omega
          clear h2 h0 h hp
          go_enter Tryd.func40, Tryd.ntmps40
          go_wp2
          go_ret
          exact ⟨ret_bool H.out.symm, rfl⟩
    · have H := hide (alone_g h2 h0)
      have e1 : ((wAt cs k : Int) == 0) = false := by simp; omega
      clear h2 h0 h
      go_enter Tryd.func40, Tryd.ntmps40
      go_wp2
      go_ret
      exact ⟨ret_bool H.out.symm, rfl⟩
set_option maxHeartbeats 1000000 in
theorem ralone_any (A : Option Addr) (n c k : Nat) (cs : List Cel) (w : World) (h : Cels .i64 w A cs) (hn : cs.length = n) (hk : k < n) (hl : n ≤ 1000000) : Calls Tryd.prog 49 #[.slice A n c, .int .i64 (k : Int)] w fun e w' => e = .returned (.bool (aloneC cs k)) ∧ w = w' := by
  obtain ⟨b, off, rfl, hb, -⟩ := h.at (i := k) (by omega)
  have c3 := h.wide k (by omega)
  by_cases h2 : wAt cs k = 2
  · have e2 : ((wAt cs k : Int) == 2) = true := by simp; omega
    by_cases hk1 : k + 1 = n
    · have H := hide (alone_a h2 (by rw [wAt_out cs (k + 1) (by omega)]; omega))
      have e3 : ((k : Int) == (n : Int) - 1) = true := by simp; omega
      have e4 : ((k : Int) + 1 == (n : Int)) = true := by simp; omega
      clear h2 hk1 h
      go_enter Tryd.func49, Tryd.ntmps49
      go_wp2
      go_ret
      exact ⟨ret_bool H.out.symm, rfl⟩
    · have c4 := h.wide (k + 1) (by omega)
      have e3 : ((k : Int) == (n : Int) - 1) = false := by simp; omega
      have e4 : ((k : Int) + 1 == (n : Int)) = false := by simp; omega
      by_cases h0 : wAt cs (k + 1) = 0
      · have H := hide (alone_b h2 h0)
        have e5 : ((wAt cs (k + 1) : Int) != 0) = false := by simp; omega
        clear h2 h0 h
        go_enter Tryd.func49, Tryd.ntmps49
        go_wp2
        go_ret
        exact ⟨ret_bool H.out.symm, rfl⟩
      · have H := hide (alone_a h2 h0)
        have e5 : ((wAt cs (k + 1) : Int) != 0) = true := by simp; omega
        clear h2 h0 h
        go_enter Tryd.func49, Tryd.ntmps49
        go_wp2
        go_ret
        exact ⟨ret_bool H.out.symm, rfl⟩
  · have e2 : ((wAt cs k : Int) == 2) = false := by simp; omega
    by_cases h0 : wAt cs k = 0
    · have e1 : ((wAt cs k : Int) == 0) = true := by simp; omega
      by_cases hk0 : k = 0
      · have H := hide (alone_d h0 (.inl hk0))
        have e3 : ((k : Int) == 0) = true := by simp; omega
        clear h2 h0 h hk0
        go_enter Tryd.func49, Tryd.ntmps49
        go_wp2
        go_ret
        exact ⟨ret_bool H.out.symm, rfl⟩
      · have c4 := h.wide (k - 1) (by omega)
        have e3 : ((k : Int) == 0) = false := by simp; omega
        by_cases hp : wAt cs (k - 1) = 2
        · have H := hide (alone_e h0 hk0 hp)
          have e5 : ((wAt cs (k - 1) : Int) != 2) = false := by simp; omega
          clear h2 h0 h hp
          go_enter Tryd.func49, Tryd.ntmps49
          go_wp2
          go_ret
          exact ⟨ret_bool H.out.symm, rfl⟩
        · have H := hide (alone_d h0 (.inr hp))
          have e5 : ((wAt cs (k - 1) : Int) != 2) = true := by simp; omega
          clear h2 h0 h hp
          go_enter Tryd.func49, Tryd.ntmps49
          go_wp2
          go_ret
          exact ⟨ret_bool H.out.symm, rfl⟩
    · have H := hide (alone_g h2 h0)
      have e1 : ((wAt cs k : Int) == 0) = false := by simp; omega
      clear h2 h0 h
      go_enter Tryd.func49, Tryd.ntmps49
      go_wp2
      go_ret
      exact ⟨ret_bool H.out.symm, rfl⟩
end Go.Proofs.YtdeoeihbmdgipaaDoor
