/-
  Contracts: the parameters that make a pen (the program's, the document's).
-/
import Derived.Test.YthedfbkkeolkmaaDoorCMath
import Derived.Test.YthedfbkkeolkmaaDoorNumb
import Derived.Test.YthedfbkkeolkmaaDoorChainH
namespace Go.Proofs.YthedfbkkeolkmaaDoor
open Go.ChangeShapes Go.WideShapes Go.ChangeAt Go.RowKit
set_option linter.unusedVariables false

theorem elem24 : Elem Tryd.prog 24 3 .i64 8 := ⟨Tryd.underlying24, by kernel_rfl⟩
theorem whole3 {w : World} {q : Nat} {t : TypeId} {x y z : Value} (h : Whole w q t [x, y, z]) : w.cell? ⟨q, 0, none⟩ = some x ∧ w.cell? ⟨q, 1, none⟩ = some y ∧ w.cell? ⟨q, 2, none⟩ = some z ∧ w.frozen? ⟨q, 0, none⟩ = false ∧ w.frozen? ⟨q, 1, none⟩ = false ∧ w.frozen? ⟨q, 2, none⟩ = false :=
  ⟨h.cell 0, h.cell 1, h.cell 2, h.frozen 0, h.frozen 1, h.frozen 2⟩
/-- A row that is the call's own from B on is its own from below B on. -/
theorem Own.lower {e : TypeId} {k : IntKind} {B B0 : Nat} {w0 w1 wr : World} {v : Value} {bs : List Int} (h : Own e k B w1 wr v bs) (hB : B0 ≤ B) (hb : Below B0 w0 w1) : Own e k B0 w0 wr v bs := by
  refine ⟨⟨h.own.1, ?_⟩, hb.trans (h.bel.mono hB), Nat.le_trans hB h.le⟩
  rcases h.own.2 with h0 | ⟨g, cap, cur, hv, hB', r⟩
  · exact .inl h0
  · exact .inr ⟨g, cap, cur, hv, Nat.le_trans hB hB', r⟩
/-- The program's table of the flags' parameters. -/
def Flags (w : World) : Prop := ∀ j, j < 5 → w.cell? ⟨0, j, none⟩ = some (.int .i64 (onC j))
theorem Flags.size {w : World} (h : Flags w) : 0 < w.heap.size := block_lt_of_cell (h 0 (by omega))
theorem Flags.keep {w w' : World} (h : Flags w) (hk : ∀ p : Addr, p.block < w.heap.size → w'.cell? p = w.cell? p) : Flags w' := fun j hj => (hk _ h.size).trans (h j hj)
theorem Flags.below {w w' : World} (h : Flags w) (hb : Below w.heap.size w w') : Flags w' := h.keep fun _ hp => hb.cell hp
theorem Flags.alloc {w : World} (h : Flags w) (o : Obj) : Flags (w.alloc o) := h.keep fun p hp => World.cell?_alloc_lt w o p hp
theorem Flags.drew {w : World} (h : Flags w) : Flags w.drew := h

theorem tab_at (k : Nat) (hk : k < 5) : ∀ w, (Instr.index 32 (.agg #[.int .i64 1, .int .i64 2, .int .i64 4, .int .i64 5, .int .i64 7]) (.int .i64 (k : Int))).run Tryd.prog w = .ok (.int .i64 (onC k)) w := by
  have h0 : ∀ w, (Instr.index 32 (.agg #[.int .i64 1, .int .i64 2, .int .i64 4, .int .i64 5, .int .i64 7]) (.int .i64 ((0 : Nat) : Int))).run Tryd.prog w = .ok (.int .i64 (onC 0)) w := fun w => by kernel_rfl
  have h1 : ∀ w, (Instr.index 32 (.agg #[.int .i64 1, .int .i64 2, .int .i64 4, .int .i64 5, .int .i64 7]) (.int .i64 ((1 : Nat) : Int))).run Tryd.prog w = .ok (.int .i64 (onC 1)) w := fun w => by kernel_rfl
  have h2 : ∀ w, (Instr.index 32 (.agg #[.int .i64 1, .int .i64 2, .int .i64 4, .int .i64 5, .int .i64 7]) (.int .i64 ((2 : Nat) : Int))).run Tryd.prog w = .ok (.int .i64 (onC 2)) w := fun w => by kernel_rfl
  have h3 : ∀ w, (Instr.index 32 (.agg #[.int .i64 1, .int .i64 2, .int .i64 4, .int .i64 5, .int .i64 7]) (.int .i64 ((3 : Nat) : Int))).run Tryd.prog w = .ok (.int .i64 (onC 3)) w := fun w => by kernel_rfl
  have h4 : ∀ w, (Instr.index 32 (.agg #[.int .i64 1, .int .i64 2, .int .i64 4, .int .i64 5, .int .i64 7]) (.int .i64 ((4 : Nat) : Int))).run Tryd.prog w = .ok (.int .i64 (onC 4)) w := fun w => by kernel_rfl
  match k, hk with
  | 0, _ => exact h0
  | 1, _ => exact h1
  | 2, _ => exact h2
  | 3, _ => exact h3
  | 4, _ => exact h4
theorem pow_bitC (k : Nat) (hk : k < 5) : (2 : Int) ^ k % 256 = (bitC k : Int) := by
  match k, hk with
  | 0, _ => decide
  | 1, _ => decide
  | 2, _ => decide
  | 3, _ => decide
  | 4, _ => decide
theorem bitC_lt (k : Nat) (hk : k < 5) : 0 < bitC k ∧ bitC k < 256 := by
  match k, hk with
  | 0, _ => decide
  | 1, _ => decide
  | 2, _ => decide
  | 3, _ => decide
  | 4, _ => decide
theorem flags_yes (f k : Nat) (h : hasN f (bitC k) = true) : 0 :: flagsL f (k + 1) = (0 :: flagsL f k) ++ [onC k] := by simp [flagsL, h]
theorem flags_no (f k : Nat) (h : hasN f (bitC k) = false) : flagsL f (k + 1) = flagsL f k := by simp [flagsL, h]
set_option maxHeartbeats 400000 in
theorem codeof_any (g : Nat) (h1 : 1 ≤ g) (h : g ≤ 16) (w : World) : Calls Tryd.prog 9 #[.int .u8 (g : Int)] w fun e w' => e = .returned (.int .i64 (colC g)) ∧ w = w' := by
  by_cases h9 : 9 ≤ g
  · have E : Hid (colC g = (g : Int) - 9 + 90) := by unfold Hid colC; rw [if_pos h9]; omega
    have h9' : (9 : Int) ≤ (g : Int) := by omega
    go_enter Tryd.func9, Tryd.ntmps9
    go_wp2
    go_ret
    exact ⟨ret_int E.out.symm, rfl⟩
  · have E : Hid (colC g = (g : Int) - 1 + 30) := by unfold Hid colC; rw [if_neg h9]; omega
    have h9' : ¬ (9 : Int) ≤ (g : Int) := by omega
    go_enter Tryd.func9, Tryd.ntmps9
    go_wp2
    go_ret
    exact ⟨ret_int E.out.symm, rfl⟩
theorem codes_not (p : Pn) (h : rightN p = false) : codesN p = [] := by unfold codesN; rw [h]; rfl
theorem codes_right (f g b : Nat) (h : rightN ⟨f, g, b⟩ = true) : codesN ⟨f, g, b⟩ = (0 :: flagsL f 5) ++ colL g 0 ++ colL b 10 := by unfold codesN; rw [if_pos h]
theorem colL_none (g : Nat) (d : Int) (h : g = 0) : colL g d = [] := by subst h; rfl
theorem colL_some (g : Nat) (d : Int) (h : g ≠ 0) : colL g d = [colC g + d] := by unfold colL; rw [if_neg h]
set_option maxRecDepth 100000 in
set_option maxHeartbeats 2000000 in
theorem codes_any (f g b : Nat) (w : World) (hS : Flags w) : Calls Tryd.prog 4 #[.agg #[.int .u8 (f : Int), .int .u8 (g : Int), .int .u8 (b : Int)]] w (Made 3 .i64 w (codesN ⟨f, g, b⟩)) := by
  cases hr : rightN ⟨f, g, b⟩
  · have HR := hide hr
    have HN := hide (codes_not _ hr)
    clear hr
    go_enter Tryd.func4, Tryd.ntmps4
    go_wp2_with fail
    refine (right_any f g b _).mono ?_
    rintro e w1 ⟨rfl, hb1⟩
    rw [HR.out]
    go_wp2
    go_ret
    have hb : Below w.heap.size w w1 := ((Below.refl _ _).alloc (Nat.le_refl _) _).trans (hb1.mono (by simp))
    exact ⟨_, rfl, by rw [HN.out]; exact ⟨World.ownsRow_nil _ _ _ _, hb, hb.size⟩⟩
  have HR := hide hr
  have HC := hide (codes_right f g b hr)
  obtain ⟨hf31, hg16, hb16⟩ := right_bd f g b hr
  clear hr
  have HP0 := hide (Whole.new w 23 [.int .u8 (f : Int), .int .u8 (g : Int), .int .u8 (b : Int)])
  have HS0 := hide (hS.alloc (.cells #[.int .u8 (f : Int), .int .u8 (g : Int), .int .u8 (b : Int)] 23))
  clear hS
  go_enter Tryd.func4, Tryd.ntmps4
  go_wp2_with fail
  refine (right_any f g b _).mono ?_
  rintro e w1 ⟨rfl, hb1⟩
  rw [HR.out]
  have HP := hide (HP0.out.later hb1)
  have hS1 := (HS0.out.below hb1).alloc (.cells #[.int .i64 0] 3)
  have HB : Hid (Below w.heap.size w w1) := ((Below.refl _ _).alloc (Nat.le_refl _) _).trans (hb1.mono (by simp))
  have HO := hide (Own.lit w1 3 .i64 [0] 1 rfl (by omega))
  clear hb1 HP0 HS0
  have t0 : (w1.alloc (.cells #[.int .i64 0] 3)).cell? ⟨0, 0, none⟩ = some (.int .i64 1) := hS1 0 (by omega)
  have t1 : (w1.alloc (.cells #[.int .i64 0] 3)).cell? ⟨0, 1, none⟩ = some (.int .i64 2) := hS1 1 (by omega)
  have t2 : (w1.alloc (.cells #[.int .i64 0] 3)).cell? ⟨0, 2, none⟩ = some (.int .i64 4) := hS1 2 (by omega)
  have t3 : (w1.alloc (.cells #[.int .i64 0] 3)).cell? ⟨0, 3, none⟩ = some (.int .i64 5) := hS1 3 (by omega)
  have t4 : (w1.alloc (.cells #[.int .i64 0] 3)).cell? ⟨0, 4, none⟩ = some (.int .i64 7) := hS1 4 (by omega)
  clear hS1
  go_wp2
  clear t0 t1 t2 t3 t4
  go_loopw [3, 4, 5, 11] (fun l _ _ i wr => ∃ k : Nat, k ≤ 5 ∧ i = .int .i64 k ∧ Own 3 .i64 w1.heap.size w1 wr l (0 :: flagsL f k)) (fun _ _ _ i _ => 5 - (intOf i).toNat)
  case atStart => exact ⟨0, Nat.zero_le _, rfl, HO.out⟩
  case round =>
    obtain ⟨k, hk, rfl, ho⟩ := hrel
    obtain ⟨p0, p1, p2, -⟩ := whole3 (HP.out.below ho.bel HP.out.lt)
    have HL5 : Hid ((0 :: flagsL f k).length ≤ 100) := by unfold Hid; have := flagsL_len f k; simp only [List.length_cons]; omega
    have HO := hide ho
    clear ho
    by_cases hlt : k < 5
    · have hidx := tab_at k hlt
      have hand := u8_and_nat f (bitC k) (by omega) (bitC_lt k hlt).2
      have hah := and_has f k hf31 hlt
      obtain ⟨M, hM⟩ : ∃ M : Nat, f &&& bitC k = M := ⟨_, rfl⟩
      rw [hM, ← pow_bitC k hlt] at hand
      rw [hM] at hah
      clear hM
      cases hh : hasN f (bitC k)
      · have hm0 : M = 0 := by
          by_cases h0 : M = 0
          · exact h0
          · have := hah.1 h0; rw [hh] at this; cases this
        subst hm0
        have HF := hide (flags_no f k hh)
        clear hah hh
        go_wp2
        go_quiet (fail)
        go_wp2
        go_roundw
        case rel => exact ⟨k + 1, by omega, by go_num, by rw [HF.out]; exact HO.out.later ((Below.refl _ _).drewN nq)⟩
        case measure => simp [intOf]; omega
      · have hm0 : ((M : Int) != 0) = true := by
          have := hah.2 hh
          simp; omega
        have HF := hide (flags_yes f k hh)
        clear hah hh
        go_wp2
        go_quiet (fail)
        have ho1 := hide (HO.out.later ((Below.refl _ _).drewN nq))
        clear HO p0 p1 p2
        generalize wr.drewN nq = wd at *
        go_wp2_with (at_builtin; refine wpList_push elem24 rfl (.tmp 21) (.tmp 23) rfl rfl rfl ho1.out (by first | exact Nat.le_trans HL5.out (by omega) | (simp only [List.length_append, List.length_singleton]; have := HL5.out; omega)) (by omega) ?_; intro vho2 w2 ho2)
        go_roundw
        case rel => exact ⟨k + 1, by omega, by go_num, by rw [HF.out]; exact ho2⟩
        case measure => simp [intOf]; omega
    · have hk5 : k = 5 := by omega
      subst hk5
      obtain ⟨L, hL⟩ : ∃ L, 0 :: flagsL f 5 = L := ⟨_, rfl⟩
      rw [hL] at HC HL5 HO
      clear hL
      have HWp := HP.out.lt
      by_cases hg0 : g = 0
      · by_cases hb0 : b = 0
        · have d1 : ((g : Int) != 0) = false := by simp; omega
          have d2 : ((b : Int) != 0) = false := by simp; omega
          rw [colL_none g 0 hg0, List.append_nil] at HC
          rw [colL_none b 10 hb0, List.append_nil] at HC
          go_wp2
          go_ret
          exact ⟨_, rfl, by rw [HC.out]; exact HO.out.lower HB.out.size HB.out⟩
        · have d1 : ((g : Int) != 0) = false := by simp; omega
          have d2 : ((b : Int) != 0) = true := by simp; omega
          rw [colL_none g 0 hg0, List.append_nil] at HC
          rw [colL_some b 10 hb0] at HC
          obtain ⟨hD1, hD2⟩ := colC_bd b hb16
          obtain ⟨D, hD⟩ : ∃ D, colC b = D := ⟨_, rfl⟩
          rw [hD] at hD1 hD2 HC
          have HDb := hide hD
          clear hD
          go_wp2_with fail
          refine (codeof_any b (by omega) hb16 _).mono ?_
          rintro e w5 ⟨rfl, rfl⟩
          rw [HDb.out]
          go_wp2_with (at_builtin; refine wpList_push elem24 rfl (.tmp 38) (.tmp 43) rfl rfl rfl HO.out (by first | exact Nat.le_trans HL5.out (by omega) | (simp only [List.length_append, List.length_singleton]; have := HL5.out; omega)) (by omega) ?_; intro vho4 w6 ho4)
          clear HO p0 p1 p2
          have HO := hide ho4
          clear ho4
          go_ret
          exact ⟨_, rfl, by rw [HC.out]; exact HO.out.lower HB.out.size HB.out⟩
      · by_cases hb0 : b = 0
        · have d1 : ((g : Int) != 0) = true := by simp; omega
          have d2 : ((b : Int) != 0) = false := by simp; omega
          rw [colL_some g 0 hg0, Int.add_zero] at HC
          obtain ⟨C, hC⟩ : ∃ C, colC g = C := ⟨_, rfl⟩
          have HCg := hide hC
          rw [hC] at HC
          clear hC
          rw [colL_none b 10 hb0, List.append_nil] at HC
          go_wp2_with fail
          refine (codeof_any g (by omega) hg16 _).mono ?_
          rintro e w3 ⟨rfl, rfl⟩
          rw [HCg.out]
          go_wp2_with (at_builtin; refine wpList_push elem24 rfl (.tmp 29) (.tmp 33) rfl rfl rfl HO.out (by first | exact Nat.le_trans HL5.out (by omega) | (simp only [List.length_append, List.length_singleton]; have := HL5.out; omega)) (by omega) ?_; intro vho3 w4 ho3; clear p0 p1 p2; obtain ⟨p0, p1, p2, -⟩ := whole3 (HP.out.below ho3.bel HWp); replace HO := hide ho3; clear ho3)
          go_ret
          exact ⟨_, rfl, by rw [HC.out]; exact HO.out.lower HB.out.size HB.out⟩
        · have d1 : ((g : Int) != 0) = true := by simp; omega
          have d2 : ((b : Int) != 0) = true := by simp; omega
          rw [colL_some g 0 hg0, Int.add_zero] at HC
          obtain ⟨C, hC⟩ : ∃ C, colC g = C := ⟨_, rfl⟩
          have HCg := hide hC
          rw [hC] at HC
          clear hC
          rw [colL_some b 10 hb0] at HC
          obtain ⟨hD1, hD2⟩ := colC_bd b hb16
          obtain ⟨D, hD⟩ : ∃ D, colC b = D := ⟨_, rfl⟩
          rw [hD] at hD1 hD2 HC
          have HDb := hide hD
          clear hD
          go_wp2_with fail
          refine (codeof_any g (by omega) hg16 _).mono ?_
          rintro e w3 ⟨rfl, rfl⟩
          rw [HCg.out]
          go_wp2_with (at_builtin; refine wpList_push elem24 rfl (.tmp 29) (.tmp 33) rfl rfl rfl HO.out (by first | exact Nat.le_trans HL5.out (by omega) | (simp only [List.length_append, List.length_singleton]; have := HL5.out; omega)) (by omega) ?_; intro vho3 w4 ho3; clear p0 p1 p2; obtain ⟨p0, p1, p2, -⟩ := whole3 (HP.out.below ho3.bel HWp); replace HO := hide ho3; clear ho3)
          refine (codeof_any b (by omega) hb16 _).mono ?_
          rintro e w5 ⟨rfl, rfl⟩
          rw [HDb.out]
          go_wp2_with (at_builtin; refine wpList_push elem24 rfl (.tmp 38) (.tmp 43) rfl rfl rfl HO.out (by first | exact Nat.le_trans HL5.out (by omega) | (simp only [List.length_append, List.length_singleton]; have := HL5.out; omega)) (by omega) ?_; intro vho4 w6 ho4)
          clear HO p0 p1 p2
          have HO := hide ho4
          clear ho4
          go_ret
          exact ⟨_, rfl, by rw [HC.out]; exact HO.out.lower HB.out.size HB.out⟩
end Go.Proofs.YthedfbkkeolkmaaDoor
