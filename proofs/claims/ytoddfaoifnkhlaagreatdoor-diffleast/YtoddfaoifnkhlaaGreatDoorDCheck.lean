/-
  Contracts: how many cells a difference has; what is wrong with one (the program's and the document's).
-/
import Derived.Test.YtoddfaoifnkhlaaGreatDoorDMem
import Derived.Test.YtoddfaoifnkhlaaGreatDoorB8
import Derived.BigQuiet
namespace Go.Proofs.YtoddfaoifnkhlaaGreatDoor
set_option maxRecDepth 100000
open Go.ChangeShapes Go.WideShapes Go.ChangeAt Go.RowKit
set_option linter.unusedVariables false

theorem wr64 (n : Int) (h : -9223372036854775808 ≤ n ∧ n ≤ 9223372036854775807) : IntKind.i64.wrap n = n := by rw [IntKind.wrap_i64]; omega
/-! ### small questions -/
theorem dfside_any (n : Int) (w : World) : Calls Tryz.prog 45 #[.int .i64 n] w fun e w' => e = .returned (.bool (sideB n)) ∧ w = w' := by
  by_cases h0 : 1 ≤ n
  · by_cases h1 : n ≤ 512
    · have HD : Hid (sideB n = true) := by unfold Hid sideB; simp [h0, h1]
      go_enter Tryz.func45, Tryz.ntmps45
      go_wp2
      go_ret
      exact ⟨by rw [HD.out]; rfl, rfl⟩
    · have HD : Hid (sideB n = false) := by unfold Hid sideB; simp [h1]
      go_enter Tryz.func45, Tryz.ntmps45
      go_wp2
      go_ret
      exact ⟨by rw [HD.out]; rfl, rfl⟩
  · have HD : Hid (sideB n = false) := by unfold Hid sideB; simp [h0]
    go_enter Tryz.func45, Tryz.ntmps45
    go_wp2
    go_ret
    exact ⟨by rw [HD.out]; rfl, rfl⟩
def belowB (n m : Int) : Bool := decide (0 ≤ n ∧ n < m)
theorem dfbelow_any (n m : Int) (w : World) : Calls Tryz.prog 46 #[.int .i64 n, .int .i64 m] w fun e w' => e = .returned (.bool (belowB n m)) ∧ w = w' := by
  by_cases h0 : 0 ≤ n
  · by_cases h1 : n < m
    · have HD : Hid (belowB n m = true) := by unfold Hid belowB; simp [h0, h1]
      go_enter Tryz.func46, Tryz.ntmps46
      go_wp2
      go_ret
      exact ⟨by rw [HD.out]; rfl, rfl⟩
    · have HD : Hid (belowB n m = false) := by unfold Hid belowB; simp [h1]
      go_enter Tryz.func46, Tryz.ntmps46
      go_wp2
      go_ret
      exact ⟨by rw [HD.out]; rfl, rfl⟩
  · have HD : Hid (belowB n m = false) := by unfold Hid belowB; simp [h0]
    go_enter Tryz.func46, Tryz.ntmps46
    go_wp2
    go_ret
    exact ⟨by rw [HD.out]; rfl, rfl⟩
/-! ### how many cells -/
def cellsTo (ss : List Sp) (k : Nat) : Nat := ((ss.take k).map fun s => s.cs.length).sum
theorem cellsTo_next (ss : List Sp) (k : Nat) (h : k < ss.length) : cellsTo ss (k + 1) = cellsTo ss k + (sAt ss k).cs.length := by
  unfold cellsTo; rw [take_nextS ss k h]; simp
theorem cellsTo_le (ss : List Sp) (m : Nat) (hb : ∀ s ∈ ss, s.cs.length ≤ m) (k : Nat) (h : k ≤ ss.length) : cellsTo ss k ≤ k * m := by
  induction k with
  | zero => simp [cellsTo]
  | succ k ih =>
    rw [cellsTo_next ss k (by omega), Nat.add_mul, Nat.one_mul]
    have := ih (by omega)
    have := hb _ (mem_sAt ss k (by omega))
    omega
theorem cellsTo_all (d : Df) : cellsTo d.ss d.ss.length = cellsD d := by unfold cellsTo cellsD; rw [List.take_length]
set_option maxHeartbeats 4000000 in
theorem dfcells_any (C : Nat) (te t : TypeId) (d : Df) (A : Option Addr) (n c : Nat) (w : World) (h : Sps C te t .i32 w A d.ss) (hC : C ≤ w.heap.size) (hn : d.ss.length = n) (hl : n ≤ 1000000) (hbd : ∀ s ∈ d.ss, s.cs.length ≤ 1000000) :
    Calls Tryz.prog 18 #[.agg #[.int .i64 d.rows, .int .i64 d.cols, .int .i64 d.row, .int .i64 d.col, .slice A n c]] w (Num .i64 (cellsD d : Int) w) := by
  have HA := hide h
  have HN := hide hn
  have HBD := hide hbd
  have HB0 : Hid (Below w.heap.size w (w.alloc (.cells #[.int .i64 d.rows, .int .i64 d.cols, .int .i64 d.row, .int .i64 d.col, .slice A n c] 33))) := (Below.refl _ _).alloc (Nat.le_refl _) _
  clear h hn hbd
  go_enter Tryz.func18, Tryz.ntmps18
  go_wp2
  go_loopw [3, 5, 9] (fun s _ i wr => ∃ k : Nat, k ≤ n ∧ i = .int .i64 k ∧ s = .int .i64 (cellsTo d.ss k : Int) ∧ Below w.heap.size w wr) (fun _ _ i _ => n - (intOf i).toNat)
  case atStart => exact ⟨0, Nat.zero_le _, rfl, rfl, HB0.out⟩
  case round =>
    obtain ⟨k, hk, rfl, rfl, hbel⟩ := hrel
    by_cases hlt : k < n
    · obtain ⟨b, off, A1, c1, rfl, lb, x0, x1, x2, -⟩ := (HA.out.below hbel hC).at (i := k) (by rw [HN.out]; exact hlt)
      have hlu : (sAt d.ss k).cs.length ≤ 1000000 := HBD.out _ (mem_sAt d.ss k (by rw [HN.out]; exact hlt))
      have hsl := cellsTo_le d.ss 1000000 HBD.out k (by rw [HN.out]; exact hk)
      have hnx := cellsTo_next d.ss k (by rw [HN.out]; exact hlt)
      obtain ⟨u, hu⟩ : ∃ u, (sAt d.ss k).cs.length = u := ⟨_, rfl⟩
      obtain ⟨s, hs⟩ : ∃ s, cellsTo d.ss k = s := ⟨_, rfl⟩
      rw [hu] at hlu x2 hnx
      rw [hs] at hsl hnx
      rw [hs]
      have hsl2 : s ≤ 1000000000000 := by omega
      have HNX : Hid ((cellsTo d.ss (k + 1) : Int) = (s : Int) + (u : Int)) := by unfold Hid; rw [hnx]; simp
      obtain ⟨r0, hr0⟩ : ∃ r0, (sAt d.ss k).row = r0 := ⟨_, rfl⟩
      obtain ⟨l0, hl0⟩ : ∃ l0, (sAt d.ss k).col = l0 := ⟨_, rfl⟩
      rw [hr0] at x0
      rw [hl0] at x1
      have HBe : Hid (Below w.heap.size w (wr.alloc (.cells #[.int .i64 r0, .int .i64 l0, .slice A1 u c1] 47))) := hbel.alloc hbel.size _
      clear hu hs hsl hnx hbel hr0 hl0
      go_wp2
      go_roundw
      case rel => exact ⟨k + 1, by omega, by go_num, by rw [HNX.out], HBe.out⟩
      case measure => simp [intOf]; omega
    · have HE : Hid ((cellsTo d.ss k : Int) = (cellsD d : Int)) := by unfold Hid; rw [← cellsTo_all, HN.out, show k = n by omega]
      go_wp2
      go_ret
      exact ⟨by rw [← HE.out]; rfl, hbel⟩
/-! ### what is wrong -/
theorem sp_bad (R C : Int) (ss : List Sp) (k n : Nat) (e : Int) (hk : k < n) (h0 : errTo (spE R C ss) k = 0) (he : spE R C ss k = e) (h : e ≠ 0) : errTo (spE R C ss) n = e := by
  rw [errTo_first _ k n hk h0 (by rw [he]; exact h), he]
set_option maxHeartbeats 8000000 in
theorem dfcheck_any (C : Nat) (te t : TypeId) (d : Df) (A : Option Addr) (n c : Nat) (w : World) (h : Sps C te t .i32 w A d.ss) (hC : C ≤ w.heap.size) (hn : d.ss.length = n) (hl : n ≤ 1000000) :
    Calls Tryz.prog 14 #[.agg #[.int .i64 d.rows, .int .i64 d.cols, .int .i64 d.row, .int .i64 d.col, .slice A n c]] w (Num .i64 (checkD d) w) := by
  obtain ⟨R, K, r0, l0, ss⟩ := d
  simp only at h hn ⊢
  obtain ⟨W0, hW0⟩ : ∃ W0, w.alloc (.cells #[.int .i64 R, .int .i64 K, .int .i64 r0, .int .i64 l0, .slice A n c] 33) = W0 := ⟨_, rfl⟩
  have HBx : Hid (Below w.heap.size w W0) := by unfold Hid; rw [← hW0]; exact (Below.refl _ _).alloc (Nat.le_refl _) _
  have HX : Hid (Whole W0 w.heap.size 33 [.int .i64 R, .int .i64 K, .int .i64 r0, .int .i64 l0, .slice A n c]) := by unfold Hid; rw [← hW0]; exact Whole.new w 33 [.int .i64 R, .int .i64 K, .int .i64 r0, .int .i64 l0, .slice A n c]
  have HA := hide (h.below HBx.out hC)
  have HC : Hid (C ≤ W0.heap.size) := Nat.le_trans hC HBx.out.size
  have HN := hide hn
  have HW := hide hW0
  clear h hn hW0 hC
  obtain ⟨d0, d1, d2, d3, d4, ld⟩ := cells5 HX.out
  obtain ⟨E, hE⟩ : ∃ E, checkD ⟨R, K, r0, l0, ss⟩ = E := ⟨_, rfl⟩
  rw [hE]
  unfold checkD at hE
  simp only at hE
  rw [HN.out] at hE
  by_cases hs : sizeN R K
  · rw [if_neg (fun q => q hs)] at hE
    have s1 : sideB R = true := by unfold sideB; simpa using hs.1
    have s2 : sideB K = true := by unfold sideB; simpa using hs.2
    by_cases hp : r0 < 0 ∨ R ≤ r0 ∨ l0 < 0 ∨ K ≤ l0
    · rw [if_pos hp] at hE
      subst hE
      by_cases hp1 : 0 ≤ r0 ∧ r0 < R
      · have b1 : belowB r0 R = true := by unfold belowB; simpa using hp1
        have b2 : belowB l0 K = false := by unfold belowB; simp; omega
        clear hs hp hp1
        go_enter Tryz.func14, Tryz.ntmps14
        go_wp2_with fail
        rw [HW.out]
        refine (dfside_any R W0).mono ?_
        rintro e k1 ⟨rfl, rfl⟩
        rw [s1]
        go_wp2_with fail
        refine (dfside_any K W0).mono ?_
        rintro e k1 ⟨rfl, rfl⟩
        rw [s2]
        go_wp2_with fail
        refine (dfbelow_any r0 R W0).mono ?_
        rintro e k1 ⟨rfl, rfl⟩
        rw [b1]
        go_wp2_with fail
        refine (dfbelow_any l0 K W0).mono ?_
        rintro e k1 ⟨rfl, rfl⟩
        rw [b2]
        go_wp2
        go_ret
        exact ⟨rfl, HBx.out⟩
      · have b1 : belowB r0 R = false := by unfold belowB; simpa using hp1
        clear hs hp hp1
        go_enter Tryz.func14, Tryz.ntmps14
        go_wp2_with fail
        rw [HW.out]
        refine (dfside_any R W0).mono ?_
        rintro e k1 ⟨rfl, rfl⟩
        rw [s1]
        go_wp2_with fail
        refine (dfside_any K W0).mono ?_
        rintro e k1 ⟨rfl, rfl⟩
        rw [s2]
        go_wp2_with fail
        refine (dfbelow_any r0 R W0).mono ?_
        rintro e k1 ⟨rfl, rfl⟩
        rw [b1]
        go_wp2
        go_ret
        exact ⟨rfl, HBx.out⟩
    · rw [if_neg hp] at hE
      have b1 : belowB r0 R = true := by unfold belowB; simp; omega
      have b2 : belowB l0 K = true := by unfold belowB; simp; omega
      have HE := hide hE
      have K1 : K ≤ 512 := hs.2.2
      clear hs hp hE
      go_enter Tryz.func14, Tryz.ntmps14
      go_wp2_with fail
      rw [HW.out]
      refine (dfside_any R W0).mono ?_
      rintro e k1 ⟨rfl, rfl⟩
      rw [s1]
      go_wp2_with fail
      refine (dfside_any K W0).mono ?_
      rintro e k1 ⟨rfl, rfl⟩
      rw [s2]
      go_wp2_with fail
      refine (dfbelow_any r0 R W0).mono ?_
      rintro e k1 ⟨rfl, rfl⟩
      rw [b1]
      go_wp2_with fail
      refine (dfbelow_any l0 K W0).mono ?_
      rintro e k1 ⟨rfl, rfl⟩
      rw [b2]
      go_wp2
      clear d0 d1 d2 d3 d4 ld b1 b2 s1 s2
      go_loopw [3, 4, 32] (fun _ _ i wr => ∃ k : Nat, k ≤ n ∧ i = .int .i64 k ∧ Hid (errTo (spE R K ss) k = 0) ∧ Below W0.heap.size W0 wr) (fun _ _ i _ => n - (intOf i).toNat)
      case atStart => exact ⟨0, Nat.zero_le _, rfl, rfl, Below.refl _ _⟩
      case round =>
        obtain ⟨k, hk, rfl, her, hbel⟩ := hrel
        by_cases hlt : k < n
        · obtain ⟨b, off, A1, c1, rfl, lb, x0, x1, x2, -⟩ := (HA.out.below hbel HC.out).at (i := k) (by rw [HN.out]; exact hlt)
          have hq : 0 < k → w.heap.size < wr.heap.size ∧ wr.cell? ⟨b, off + (k - 1) * 3, none⟩ = some (.int .i64 (sAt ss (k - 1)).row) := by
            intro q
            obtain ⟨b', off', A1', c1', e1, lb', y0, -⟩ := (HA.out.below hbel HC.out).at (i := k - 1) (by rw [HN.out]; omega)
            cases e1
            exact ⟨Nat.lt_of_lt_of_le HX.out.lt hbel.size, y0⟩
          obtain ⟨d0, d1, d2, d3, d4, ld⟩ := cells5 (HX.out.later hbel)
          have hsp : spE R K ss k = if 0 < k ∧ (sAt ss k).row ≤ (sAt ss (k - 1)).row then 17 else if (sAt ss k).row < 0 ∨ R ≤ (sAt ss k).row ∨ (sAt ss k).col < 0 ∨ K ≤ (sAt ss k).col ∨ K - (sAt ss k).col < ((sAt ss k).cs.length : Int) then 5 else if (sAt ss k).cs.length = 0 then 3 else 0 := rfl
          obtain ⟨x, hx⟩ : ∃ x, sAt ss k = x := ⟨_, rfl⟩
          rw [hx] at x0 x1 x2 hsp
          obtain ⟨r, l, cs⟩ := x
          simp only at x0 x1 x2 hsp
          obtain ⟨u, hu⟩ : ∃ u, cs.length = u := ⟨_, rfl⟩
          rw [hu] at x2 hsp
          obtain ⟨q, hqq⟩ : ∃ q, (sAt ss (k - 1)).row = q := ⟨_, rfl⟩
          rw [hqq] at hsp hq
          have HBr : Hid (Below W0.heap.size W0 (wr.alloc (.cells #[.int .i64 r, .int .i64 l, .slice A1 u c1] 47))) := hbel.alloc hbel.size _
          obtain ⟨W1, hW1⟩ : ∃ W1, wr.alloc (.cells #[.int .i64 r, .int .i64 l, .slice A1 u c1] 47) = W1 := ⟨_, rfl⟩
          obtain ⟨P1, hP1⟩ : ∃ P1, wr.heap.size = P1 := ⟨_, rfl⟩
          have z0 : Whole W1 P1 47 [.int .i64 r, .int .i64 l, .slice A1 u c1] := by rw [← hW1, ← hP1]; exact Whole.new wr 47 [.int .i64 r, .int .i64 l, .slice A1 u c1]
          obtain ⟨z0, z1, z2, lz⟩ := cells3 z0
          have hb1 : Below wr.heap.size wr W1 := by rw [← hW1]; exact new1W _ _
          have hq1 : 0 < k → W1.cell? ⟨b, off + (k - 1) * 3, none⟩ = some (.int .i64 q) := fun hk => by
            obtain ⟨-, h2⟩ := hq hk
            rw [hb1.cell (block_lt_of_cell h2)]; exact h2
          obtain ⟨f0, f1, f2, f3, f4, lf⟩ := cells5 ((HX.out.later hbel).later hb1)
          rw [hW1] at HBr
          have HW1 := hide hW1
          have HP1 := hide hP1
          have HER := hide her.out
          have HX1 := hide hx
          clear hx hu hqq hW1 hP1 hb1 her hbel hq
          by_cases hk0 : 0 < k
          · have y0 := hq1 hk0
            have wk : ((k : Int) - 1) = ((k - 1 : Nat) : Int) := by omega
            have wk2 : IntKind.i64.wrap ((k : Int) - 1) = ((k - 1 : Nat) : Int) := by rw [wr64 _ (by omega)]; omega
            clear hq1
            by_cases h17 : r ≤ q
            ·
              have HF : Hid (E = 17) := by
                unfold Hid
                rw [← HE.out]
                exact sp_bad R K ss k n 17 hlt HER.out (by rw [hsp]; rw [if_pos ⟨hk0, h17⟩]) (by omega)
              clear hsp
              go_wp2
              rw [HW1.out, HP1.out]
              go_quiet (fail)
              go_wp2
              go_ret
              exact ⟨by rw [HF.out]; rfl, HBx.out.trans ((HBr.out.drewN _).mono HBx.out.size)⟩
            ·
              by_cases hr : 0 ≤ r ∧ r < R
              · have b1 : belowB r R = true := by unfold belowB; simpa using hr
                by_cases hc : 0 ≤ l ∧ l < K
                · have b2 : belowB l K = true := by unfold belowB; simpa using hc
                  have wr1 : IntKind.i64.wrap (K - l) = K - l := wr64 _ (by omega)
                  by_cases hu1 : (u : Int) ≤ K - l
                  · have hu2 : ¬ (K - l < (u : Int)) := by omega
                    by_cases hu0 : u = 0
                    · subst hu0
                      have HF : Hid (E = 3) := by
                        unfold Hid
                        rw [← HE.out]
                        exact sp_bad R K ss k n 3 hlt HER.out (by rw [hsp]; rw [if_neg (by omega)]; rw [if_neg (by omega), if_pos rfl]) (by omega)
                      clear hsp
                      go_wp2
                      rw [HW1.out, HP1.out]
                      go_quiet (fail)
                      go_wp2_with fail
                      refine (dfbelow_any r R _).mono ?_
                      rintro e k1 ⟨rfl, rfl⟩
                      rw [b1]
                      go_wp2_with fail
                      refine (dfbelow_any l K _).mono ?_
                      rintro e k1 ⟨rfl, rfl⟩
                      rw [b2]
                      go_wp2
                      go_ret
                      exact ⟨by rw [HF.out]; rfl, HBx.out.trans ((HBr.out.drewN _).mono HBx.out.size)⟩
                    · have HNX : Hid (errTo (spE R K ss) (k + 1) = 0) := errTo_next _ k HER.out (by rw [hsp]; rw [if_neg (by omega)]; rw [if_neg (by omega), if_neg hu0])
                      have hu3 : ((u : Int) == 0) = false := by simpa using hu0
                      clear hsp
                      go_wp2
                      rw [HW1.out, HP1.out]
                      go_quiet (fail)
                      go_wp2_with fail
                      refine (dfbelow_any r R _).mono ?_
                      rintro e k1 ⟨rfl, rfl⟩
                      rw [b1]
                      go_wp2_with fail
                      refine (dfbelow_any l K _).mono ?_
                      rintro e k1 ⟨rfl, rfl⟩
                      rw [b2]
                      go_wp2
                      go_roundw
                      case rel => exact ⟨k + 1, by omega, by go_num, HNX, HBr.out.drewN _⟩
                      case measure => simp [intOf]; omega
                  · have hu2 : K - l < (u : Int) := by omega
                    have HF : Hid (E = 5) := by
                      unfold Hid
                      rw [← HE.out]
                      exact sp_bad R K ss k n 5 hlt HER.out (by rw [hsp]; rw [if_neg (by omega)]; rw [if_pos (by omega)]) (by omega)
                    clear hsp
                    go_wp2
                    rw [HW1.out, HP1.out]
                    go_quiet (fail)
                    go_wp2_with fail
                    refine (dfbelow_any r R _).mono ?_
                    rintro e k1 ⟨rfl, rfl⟩
                    rw [b1]
                    go_wp2_with fail
                    refine (dfbelow_any l K _).mono ?_
                    rintro e k1 ⟨rfl, rfl⟩
                    rw [b2]
                    go_wp2
                    go_ret
                    exact ⟨by rw [HF.out]; rfl, HBx.out.trans ((HBr.out.drewN _).mono HBx.out.size)⟩
                · have b2 : belowB l K = false := by unfold belowB; simpa using hc
                  have HF : Hid (E = 5) := by
                    unfold Hid
                    rw [← HE.out]
                    exact sp_bad R K ss k n 5 hlt HER.out (by rw [hsp]; rw [if_neg (by omega)]; rw [if_pos (by omega)]) (by omega)
                  clear hsp
                  go_wp2
                  rw [HW1.out, HP1.out]
                  go_quiet (fail)
                  go_wp2_with fail
                  refine (dfbelow_any r R _).mono ?_
                  rintro e k1 ⟨rfl, rfl⟩
                  rw [b1]
                  go_wp2_with fail
                  refine (dfbelow_any l K _).mono ?_
                  rintro e k1 ⟨rfl, rfl⟩
                  rw [b2]
                  go_wp2
                  go_ret
                  exact ⟨by rw [HF.out]; rfl, HBx.out.trans ((HBr.out.drewN _).mono HBx.out.size)⟩
              · have b1 : belowB r R = false := by unfold belowB; simpa using hr
                have HF : Hid (E = 5) := by
                  unfold Hid
                  rw [← HE.out]
                  exact sp_bad R K ss k n 5 hlt HER.out (by rw [hsp]; rw [if_neg (by omega)]; rw [if_pos (by omega)]) (by omega)
                clear hsp
                go_wp2
                rw [HW1.out, HP1.out]
                go_quiet (fail)
                go_wp2_with fail
                refine (dfbelow_any r R _).mono ?_
                rintro e k1 ⟨rfl, rfl⟩
                rw [b1]
                go_wp2
                go_ret
                exact ⟨by rw [HF.out]; rfl, HBx.out.trans ((HBr.out.drewN _).mono HBx.out.size)⟩
          · clear hq1
            by_cases hr : 0 ≤ r ∧ r < R
            · have b1 : belowB r R = true := by unfold belowB; simpa using hr
              by_cases hc : 0 ≤ l ∧ l < K
              · have b2 : belowB l K = true := by unfold belowB; simpa using hc
                have wr1 : IntKind.i64.wrap (K - l) = K - l := wr64 _ (by omega)
                by_cases hu1 : (u : Int) ≤ K - l
                · have hu2 : ¬ (K - l < (u : Int)) := by omega
                  by_cases hu0 : u = 0
                  · subst hu0
                    have HF : Hid (E = 3) := by
                      unfold Hid
                      rw [← HE.out]
                      exact sp_bad R K ss k n 3 hlt HER.out (by rw [hsp]; rw [if_neg (by omega)]; rw [if_neg (by omega), if_pos rfl]) (by omega)
                    clear hsp
                    go_wp2
                    rw [HW1.out, HP1.out]
                    go_quiet (fail)
                    go_wp2_with fail
                    refine (dfbelow_any r R _).mono ?_
                    rintro e k1 ⟨rfl, rfl⟩
                    rw [b1]
                    go_wp2_with fail
                    refine (dfbelow_any l K _).mono ?_
                    rintro e k1 ⟨rfl, rfl⟩
                    rw [b2]
                    go_wp2
                    go_ret
                    exact ⟨by rw [HF.out]; rfl, HBx.out.trans ((HBr.out.drewN _).mono HBx.out.size)⟩
                  · have HNX : Hid (errTo (spE R K ss) (k + 1) = 0) := errTo_next _ k HER.out (by rw [hsp]; rw [if_neg (by omega)]; rw [if_neg (by omega), if_neg hu0])
                    have hu3 : ((u : Int) == 0) = false := by simpa using hu0
                    clear hsp
                    go_wp2
                    rw [HW1.out, HP1.out]
                    go_quiet (fail)
                    go_wp2_with fail
                    refine (dfbelow_any r R _).mono ?_
                    rintro e k1 ⟨rfl, rfl⟩
                    rw [b1]
                    go_wp2_with fail
                    refine (dfbelow_any l K _).mono ?_
                    rintro e k1 ⟨rfl, rfl⟩
                    rw [b2]
                    go_wp2
                    go_roundw
                    case rel => exact ⟨k + 1, by omega, by go_num, HNX, HBr.out.drewN _⟩
                    case measure => simp [intOf]; omega
                · have hu2 : K - l < (u : Int) := by omega
                  have HF : Hid (E = 5) := by
                    unfold Hid
                    rw [← HE.out]
                    exact sp_bad R K ss k n 5 hlt HER.out (by rw [hsp]; rw [if_neg (by omega)]; rw [if_pos (by omega)]) (by omega)
                  clear hsp
                  go_wp2
                  rw [HW1.out, HP1.out]
                  go_quiet (fail)
                  go_wp2_with fail
                  refine (dfbelow_any r R _).mono ?_
                  rintro e k1 ⟨rfl, rfl⟩
                  rw [b1]
                  go_wp2_with fail
                  refine (dfbelow_any l K _).mono ?_
                  rintro e k1 ⟨rfl, rfl⟩
                  rw [b2]
                  go_wp2
                  go_ret
                  exact ⟨by rw [HF.out]; rfl, HBx.out.trans ((HBr.out.drewN _).mono HBx.out.size)⟩
              · have b2 : belowB l K = false := by unfold belowB; simpa using hc
                have HF : Hid (E = 5) := by
                  unfold Hid
                  rw [← HE.out]
                  exact sp_bad R K ss k n 5 hlt HER.out (by rw [hsp]; rw [if_neg (by omega)]; rw [if_pos (by omega)]) (by omega)
                clear hsp
                go_wp2
                rw [HW1.out, HP1.out]
                go_quiet (fail)
                go_wp2_with fail
                refine (dfbelow_any r R _).mono ?_
                rintro e k1 ⟨rfl, rfl⟩
                rw [b1]
                go_wp2_with fail
                refine (dfbelow_any l K _).mono ?_
                rintro e k1 ⟨rfl, rfl⟩
                rw [b2]
                go_wp2
                go_ret
                exact ⟨by rw [HF.out]; rfl, HBx.out.trans ((HBr.out.drewN _).mono HBx.out.size)⟩
            · have b1 : belowB r R = false := by unfold belowB; simpa using hr
              have HF : Hid (E = 5) := by
                unfold Hid
                rw [← HE.out]
                exact sp_bad R K ss k n 5 hlt HER.out (by rw [hsp]; rw [if_neg (by omega)]; rw [if_pos (by omega)]) (by omega)
              clear hsp
              go_wp2
              rw [HW1.out, HP1.out]
              go_quiet (fail)
              go_wp2_with fail
              refine (dfbelow_any r R _).mono ?_
              rintro e k1 ⟨rfl, rfl⟩
              rw [b1]
              go_wp2
              go_ret
              exact ⟨by rw [HF.out]; rfl, HBx.out.trans ((HBr.out.drewN _).mono HBx.out.size)⟩
        · have HF : Hid (E = 0) := by
            unfold Hid
            rw [← HE.out, show n = k by omega]
            exact her.out
          have HBr := hide hbel
          clear hbel
          go_wp2
          go_ret
          exact ⟨by rw [HF.out]; rfl, HBx.out.trans (HBr.out.mono HBx.out.size)⟩
  · rw [if_pos hs] at hE
    subst hE
    by_cases hs1 : 1 ≤ R ∧ R ≤ 512
    · have s1 : sideB R = true := by unfold sideB; simpa using hs1
      have s2 : sideB K = false := by unfold sideB sizeN at *; simp; omega
      clear hs hs1
      go_enter Tryz.func14, Tryz.ntmps14
      go_wp2_with fail
      rw [HW.out]
      refine (dfside_any R W0).mono ?_
      rintro e k1 ⟨rfl, rfl⟩
      rw [s1]
      go_wp2_with fail
      refine (dfside_any K W0).mono ?_
      rintro e k1 ⟨rfl, rfl⟩
      rw [s2]
      go_wp2
      go_ret
      exact ⟨rfl, HBx.out⟩
    · have s1 : sideB R = false := by unfold sideB; simpa using hs1
      clear hs hs1
      go_enter Tryz.func14, Tryz.ntmps14
      go_wp2_with fail
      rw [HW.out]
      refine (dfside_any R W0).mono ?_
      rintro e k1 ⟨rfl, rfl⟩
      rw [s1]
      go_wp2
      go_ret
      exact ⟨rfl, HBx.out⟩
end Go.Proofs.YtoddfaoifnkhlaaGreatDoor
