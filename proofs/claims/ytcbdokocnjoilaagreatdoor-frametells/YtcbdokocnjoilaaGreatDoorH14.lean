/-
  Contracts and plain mathematics of DCheck, GCat, DSame.
-/
import Derived.Test.YtcbdokocnjoilaaGreatDoorH12
import Derived.Test.YtcbdokocnjoilaaGreatDoorH13
import Derived.BigQuiet
import Derived.Test.YtcbdokocnjoilaaGreatDoorH5
import Derived.Test.YtcbdokocnjoilaaGreatDoorH3
import Derived.Test.YtcbdokocnjoilaaGreatDoorH4
import Derived.Test.YtcbdokocnjoilaaGreatDoorH11
import Derived.Test.YtcbdokocnjoilaaGreatDoorH6
import Derived.Lib.AppendZeros
namespace Go.Proofs.YtcbdokocnjoilaaGreatDoor
set_option maxRecDepth 100000
set_option linter.unusedVariables false
set_option maxHeartbeats 8000000
section
open Go.ChangeShapes Go.WideShapes Go.ChangeAt Go.RowKit
theorem wr64 (n : Int) (h : -9223372036854775808 ≤ n ∧ n ≤ 9223372036854775807) : IntKind.i64.wrap n = n := by rw [IntKind.wrap_i64]; omega
/-! ### small questions -/
theorem dfside_any (n : Int) (w : World) : Calls Tryz.prog 51 #[.int .i64 n] w fun e w' => e = .returned (.bool (sideB n)) ∧ w = w' := by
  by_cases h0 : 1 ≤ n
  · by_cases h1 : n ≤ 512
    · have HD : Hid (sideB n = true) := by unfold Hid sideB; simp [h0, h1]
      go_enter Tryz.func51, Tryz.ntmps51
      go_wp2
      go_ret
      exact ⟨by rw [HD.out]; rfl, rfl⟩
    · have HD : Hid (sideB n = false) := by unfold Hid sideB; simp [h1]
      go_enter Tryz.func51, Tryz.ntmps51
      go_wp2
      go_ret
      exact ⟨by rw [HD.out]; rfl, rfl⟩
  · have HD : Hid (sideB n = false) := by unfold Hid sideB; simp [h0]
    go_enter Tryz.func51, Tryz.ntmps51
    go_wp2
    go_ret
    exact ⟨by rw [HD.out]; rfl, rfl⟩
def belowB (n m : Int) : Bool := decide (0 ≤ n ∧ n < m)
theorem dfbelow_any (n m : Int) (w : World) : Calls Tryz.prog 52 #[.int .i64 n, .int .i64 m] w fun e w' => e = .returned (.bool (belowB n m)) ∧ w = w' := by
  by_cases h0 : 0 ≤ n
  · by_cases h1 : n < m
    · have HD : Hid (belowB n m = true) := by unfold Hid belowB; simp [h0, h1]
      go_enter Tryz.func52, Tryz.ntmps52
      go_wp2
      go_ret
      exact ⟨by rw [HD.out]; rfl, rfl⟩
    · have HD : Hid (belowB n m = false) := by unfold Hid belowB; simp [h1]
      go_enter Tryz.func52, Tryz.ntmps52
      go_wp2
      go_ret
      exact ⟨by rw [HD.out]; rfl, rfl⟩
  · have HD : Hid (belowB n m = false) := by unfold Hid belowB; simp [h0]
    go_enter Tryz.func52, Tryz.ntmps52
    go_wp2
    go_ret
    exact ⟨by rw [HD.out]; rfl, rfl⟩
/-! ### how many cells -/
/-! ### what is wrong -/
theorem sp_bad (R C : Int) (ss : List Sp) (k n : Nat) (e : Int) (hk : k < n) (h0 : errTo (spE R C ss) k = 0) (he : spE R C ss k = e) (h : e ≠ 0) : errTo (spE R C ss) n = e := by
  rw [errTo_first _ k n hk h0 (by rw [he]; exact h), he]
theorem dfcheck_any (C : Nat) (te t : TypeId) (d : Df) (A : Option Addr) (n c : Nat) (w : World) (h : Sps C te t .i32 w A d.ss) (hC : C ≤ w.heap.size) (hn : d.ss.length = n) (hl : n ≤ 1000000) :
    Calls Tryz.prog 34 #[.agg #[.int .i64 d.rows, .int .i64 d.cols, .int .i64 d.row, .int .i64 d.col, .slice A n c]] w (Num .i64 (checkD d) w) := by
  obtain ⟨R, K, r0, l0, ss⟩ := d
  simp only at h hn ⊢
  obtain ⟨W0, hW0⟩ : ∃ W0, w.alloc (.cells #[.int .i64 R, .int .i64 K, .int .i64 r0, .int .i64 l0, .slice A n c] 25) = W0 := ⟨_, rfl⟩
  have HBx : Hid (Below w.heap.size w W0) := by unfold Hid; rw [← hW0]; exact (Below.refl _ _).alloc (Nat.le_refl _) _
  have HX : Hid (Whole W0 w.heap.size 25 [.int .i64 R, .int .i64 K, .int .i64 r0, .int .i64 l0, .slice A n c]) := by unfold Hid; rw [← hW0]; exact Whole.new w 25 [.int .i64 R, .int .i64 K, .int .i64 r0, .int .i64 l0, .slice A n c]
  have HA := hide (h.below HBx.out hC)
  have HC : Hid (C ≤ W0.heap.size) := Nat.le_trans hC HBx.out.size
  have HN := hide hn
  have HW := hide hW0
  clear h hn hW0 hC
  obtain ⟨d0, d1, d2, d3, d4, ld⟩ := cells5 HX.out
  obtain ⟨E, hE⟩ : ∃ E, checkD ⟨R, K, r0, l0, ss⟩ = E := ⟨_, rfl⟩
  rw [hE]
  unfold checkD at hE
  simp only at hE
  rw [HN.out] at hE
  by_cases hs : sizeN R K
  · rw [if_neg (fun q => q hs)] at hE
    have s1 : sideB R = true := by unfold sideB; simpa using hs.1
    have s2 : sideB K = true := by unfold sideB; simpa using hs.2
    by_cases hp : r0 < 0 ∨ R ≤ r0 ∨ l0 < 0 ∨ K ≤ l0
    · rw [if_pos hp] at hE
      subst hE
      by_cases hp1 : 0 ≤ r0 ∧ r0 < R
      · have b1 : belowB r0 R = true := by unfold belowB; simpa using hp1
        have b2 : belowB l0 K = false := by unfold belowB; simp; omega
        clear hs hp hp1
        go_enter Tryz.func34, Tryz.ntmps34
        go_wp2_with fail
        rw [HW.out]
        refine (dfside_any R W0).mono ?_
        rintro e k1 ⟨rfl, rfl⟩
        rw [s1]
        go_wp2_with fail
        refine (dfside_any K W0).mono ?_
        rintro e k1 ⟨rfl, rfl⟩
        rw [s2]
        go_wp2_with fail
        refine (dfbelow_any r0 R W0).mono ?_
        rintro e k1 ⟨rfl, rfl⟩
        rw [b1]
        go_wp2_with fail
        refine (dfbelow_any l0 K W0).mono ?_
        rintro e k1 ⟨rfl, rfl⟩
        rw [b2]
        go_wp2
        go_ret
        exact ⟨rfl, HBx.out⟩
      · have b1 : belowB r0 R = false := by unfold belowB; simpa using hp1
        clear hs hp hp1
        go_enter Tryz.func34, Tryz.ntmps34
        go_wp2_with fail
        rw [HW.out]
        refine (dfside_any R W0).mono ?_
        rintro e k1 ⟨rfl, rfl⟩
        rw [s1]
        go_wp2_with fail
        refine (dfside_any K W0).mono ?_
        rintro e k1 ⟨rfl, rfl⟩
        rw [s2]
        go_wp2_with fail
        refine (dfbelow_any r0 R W0).mono ?_
        rintro e k1 ⟨rfl, rfl⟩
        rw [b1]
        go_wp2
        go_ret
        exact ⟨rfl, HBx.out⟩
    · rw [if_neg hp] at hE
      have b1 : belowB r0 R = true := by unfold belowB; simp; omega
      have b2 : belowB l0 K = true := by unfold belowB; simp; omega
      have HE := hide hE
      have K1 : K ≤ 512 := hs.2.2
      clear hs hp hE
      go_enter Tryz.func34, Tryz.ntmps34
      go_wp2_with fail
      rw [HW.out]
      refine (dfside_any R W0).mono ?_
      rintro e k1 ⟨rfl, rfl⟩
      rw [s1]
      go_wp2_with fail
      refine (dfside_any K W0).mono ?_
      rintro e k1 ⟨rfl, rfl⟩
      rw [s2]
      go_wp2_with fail
      refine (dfbelow_any r0 R W0).mono ?_
      rintro e k1 ⟨rfl, rfl⟩
      rw [b1]
      go_wp2_with fail
      refine (dfbelow_any l0 K W0).mono ?_
      rintro e k1 ⟨rfl, rfl⟩
      rw [b2]
      go_wp2
      clear d0 d1 d2 d3 d4 ld b1 b2 s1 s2
      go_loopw [3, 4, 32] (fun _ _ i wr => ∃ k : Nat, k ≤ n ∧ i = .int .i64 k ∧ Hid (errTo (spE R K ss) k = 0) ∧ Below W0.heap.size W0 wr) (fun _ _ i _ => n - (intOf i).toNat)
      case atStart => exact ⟨0, Nat.zero_le _, rfl, rfl, Below.refl _ _⟩
      case round =>
        obtain ⟨k, hk, rfl, her, hbel⟩ := hrel
        by_cases hlt : k < n
        · obtain ⟨b, off, A1, c1, rfl, lb, x0, x1, x2, -⟩ := (HA.out.below hbel HC.out).at (i := k) (by rw [HN.out]; exact hlt)
          have hq : 0 < k → w.heap.size < wr.heap.size ∧ wr.cell? ⟨b, off + (k - 1) * 3, none⟩ = some (.int .i64 (sAt ss (k - 1)).row) := by
            intro q
            obtain ⟨b', off', A1', c1', e1, lb', y0, -⟩ := (HA.out.below hbel HC.out).at (i := k - 1) (by rw [HN.out]; omega)
            cases e1
            exact ⟨Nat.lt_of_lt_of_le HX.out.lt hbel.size, y0⟩
          obtain ⟨d0, d1, d2, d3, d4, ld⟩ := cells5 (HX.out.later hbel)
          have hsp : spE R K ss k = if 0 < k ∧ (sAt ss k).row ≤ (sAt ss (k - 1)).row then 17 else if (sAt ss k).row < 0 ∨ R ≤ (sAt ss k).row ∨ (sAt ss k).col < 0 ∨ K ≤ (sAt ss k).col ∨ K - (sAt ss k).col < ((sAt ss k).cs.length : Int) then 5 else if (sAt ss k).cs.length = 0 then 3 else 0 := rfl
          obtain ⟨x, hx⟩ : ∃ x, sAt ss k = x := ⟨_, rfl⟩
          rw [hx] at x0 x1 x2 hsp
          obtain ⟨r, l, cs⟩ := x
          simp only at x0 x1 x2 hsp
          obtain ⟨u, hu⟩ : ∃ u, cs.length = u := ⟨_, rfl⟩
          rw [hu] at x2 hsp
          obtain ⟨q, hqq⟩ : ∃ q, (sAt ss (k - 1)).row = q := ⟨_, rfl⟩
          rw [hqq] at hsp hq
          have HBr : Hid (Below W0.heap.size W0 (wr.alloc (.cells #[.int .i64 r, .int .i64 l, .slice A1 u c1] 68))) := hbel.alloc hbel.size _
          obtain ⟨W1, hW1⟩ : ∃ W1, wr.alloc (.cells #[.int .i64 r, .int .i64 l, .slice A1 u c1] 68) = W1 := ⟨_, rfl⟩
          obtain ⟨P1, hP1⟩ : ∃ P1, wr.heap.size = P1 := ⟨_, rfl⟩
          have z0 : Whole W1 P1 68 [.int .i64 r, .int .i64 l, .slice A1 u c1] := by rw [← hW1, ← hP1]; exact Whole.new wr 68 [.int .i64 r, .int .i64 l, .slice A1 u c1]
          obtain ⟨z0, z1, z2, lz⟩ := cells3 z0
          have hb1 : Below wr.heap.size wr W1 := by rw [← hW1]; exact new1W _ _
          have hq1 : 0 < k → W1.cell? ⟨b, off + (k - 1) * 3, none⟩ = some (.int .i64 q) := fun hk => by
            obtain ⟨-, h2⟩ := hq hk
            rw [hb1.cell (block_lt_of_cell h2)]; exact h2
          obtain ⟨f0, f1, f2, f3, f4, lf⟩ := cells5 ((HX.out.later hbel).later hb1)
          rw [hW1] at HBr
          have HW1 := hide hW1
          have HP1 := hide hP1
          have HER := hide her.out
          have HX1 := hide hx
          clear hx hu hqq hW1 hP1 hb1 her hbel hq
          by_cases hk0 : 0 < k
          · have y0 := hq1 hk0
            have wk : ((k : Int) - 1) = ((k - 1 : Nat) : Int) := by omega
            have wk2 : IntKind.i64.wrap ((k : Int) - 1) = ((k - 1 : Nat) : Int) := by rw [wr64 _ (by omega)]; omega
            clear hq1
            by_cases h17 : r ≤ q
            ·
              have HF : Hid (E = 17) := by
                unfold Hid
                rw [← HE.out]
                exact sp_bad R K ss k n 17 hlt HER.out (by rw [hsp]; rw [if_pos ⟨hk0, h17⟩]) (by omega)
              clear hsp
              go_wp2
              rw [HW1.out, HP1.out]
              go_quiet (fail)
              go_wp2
              go_ret
              exact ⟨by rw [HF.out]; rfl, HBx.out.trans ((HBr.out.drewN _).mono HBx.out.size)⟩
            ·
              by_cases hr : 0 ≤ r ∧ r < R
              · have b1 : belowB r R = true := by unfold belowB; simpa using hr
                by_cases hc : 0 ≤ l ∧ l < K
                · have b2 : belowB l K = true := by unfold belowB; simpa using hc
                  have wr1 : IntKind.i64.wrap (K - l) = K - l := wr64 _ (by omega)
                  by_cases hu1 : (u : Int) ≤ K - l
                  · have hu2 : ¬ (K - l < (u : Int)) := by omega
                    by_cases hu0 : u = 0
                    · subst hu0
                      have HF : Hid (E = 3) := by
                        unfold Hid
                        rw [← HE.out]
                        exact sp_bad R K ss k n 3 hlt HER.out (by rw [hsp]; rw [if_neg (by omega)]; rw [if_neg (by omega), if_pos rfl]) (by omega)
                      clear hsp
                      go_wp2
                      rw [HW1.out, HP1.out]
                      go_quiet (fail)
                      go_wp2_with fail
                      refine (dfbelow_any r R _).mono ?_
                      rintro e k1 ⟨rfl, rfl⟩
                      rw [b1]
                      go_wp2_with fail
                      refine (dfbelow_any l K _).mono ?_
                      rintro e k1 ⟨rfl, rfl⟩
                      rw [b2]
                      go_wp2
                      go_ret
                      exact ⟨by rw [HF.out]; rfl, HBx.out.trans ((HBr.out.drewN _).mono HBx.out.size)⟩
                    · have HNX : Hid (errTo (spE R K ss) (k + 1) = 0) := errTo_next _ k HER.out (by rw [hsp]; rw [if_neg (by omega)]; rw [if_neg (by omega), if_neg hu0])
                      have hu3 : ((u : Int) == 0) = false := by simpa using hu0
                      clear hsp
                      go_wp2
                      rw [HW1.out, HP1.out]
                      go_quiet (fail)
                      go_wp2_with fail
                      refine (dfbelow_any r R _).mono ?_
                      rintro e k1 ⟨rfl, rfl⟩
                      rw [b1]
                      go_wp2_with fail
                      refine (dfbelow_any l K _).mono ?_
                      rintro e k1 ⟨rfl, rfl⟩
                      rw [b2]
                      go_wp2
                      go_roundw
                      case rel => exact ⟨k + 1, by omega, by go_num, HNX, HBr.out.drewN _⟩
                      case measure => simp [intOf]; omega
                  · have hu2 : K - l < (u : Int) := by omega
                    have HF : Hid (E = 5) := by
                      unfold Hid
                      rw [← HE.out]
                      exact sp_bad R K ss k n 5 hlt HER.out (by rw [hsp]; rw [if_neg (by omega)]; rw [if_pos (by omega)]) (by omega)
                    clear hsp
                    go_wp2
                    rw [HW1.out, HP1.out]
                    go_quiet (fail)
                    go_wp2_with fail
                    refine (dfbelow_any r R _).mono ?_
                    rintro e k1 ⟨rfl, rfl⟩
                    rw [b1]
                    go_wp2_with fail
                    refine (dfbelow_any l K _).mono ?_
                    rintro e k1 ⟨rfl, rfl⟩
                    rw [b2]
                    go_wp2
                    go_ret
                    exact ⟨by rw [HF.out]; rfl, HBx.out.trans ((HBr.out.drewN _).mono HBx.out.size)⟩
                · have b2 : belowB l K = false := by unfold belowB; simpa using hc
                  have HF : Hid (E = 5) := by
                    unfold Hid
                    rw [← HE.out]
                    exact sp_bad R K ss k n 5 hlt HER.out (by rw [hsp]; rw [if_neg (by omega)]; rw [if_pos (by omega)]) (by omega)
                  clear hsp
                  go_wp2
                  rw [HW1.out, HP1.out]
                  go_quiet (fail)
                  go_wp2_with fail
                  refine (dfbelow_any r R _).mono ?_
                  rintro e k1 ⟨rfl, rfl⟩
                  rw [b1]
                  go_wp2_with fail
                  refine (dfbelow_any l K _).mono ?_
                  rintro e k1 ⟨rfl, rfl⟩
                  rw [b2]
                  go_wp2
                  go_ret
                  exact ⟨by rw [HF.out]; rfl, HBx.out.trans ((HBr.out.drewN _).mono HBx.out.size)⟩
              · have b1 : belowB r R = false := by unfold belowB; simpa using hr
                have HF : Hid (E = 5) := by
                  unfold Hid
                  rw [← HE.out]
                  exact sp_bad R K ss k n 5 hlt HER.out (by rw [hsp]; rw [if_neg (by omega)]; rw [if_pos (by omega)]) (by omega)
                clear hsp
                go_wp2
                rw [HW1.out, HP1.out]
                go_quiet (fail)
                go_wp2_with fail
                refine (dfbelow_any r R _).mono ?_
                rintro e k1 ⟨rfl, rfl⟩
                rw [b1]
                go_wp2
                go_ret
                exact ⟨by rw [HF.out]; rfl, HBx.out.trans ((HBr.out.drewN _).mono HBx.out.size)⟩
          · clear hq1
            by_cases hr : 0 ≤ r ∧ r < R
            · have b1 : belowB r R = true := by unfold belowB; simpa using hr
              by_cases hc : 0 ≤ l ∧ l < K
              · have b2 : belowB l K = true := by unfold belowB; simpa using hc
                have wr1 : IntKind.i64.wrap (K - l) = K - l := wr64 _ (by omega)
                by_cases hu1 : (u : Int) ≤ K - l
                · have hu2 : ¬ (K - l < (u : Int)) := by omega
                  by_cases hu0 : u = 0
                  · subst hu0
                    have HF : Hid (E = 3) := by
                      unfold Hid
                      rw [← HE.out]
                      exact sp_bad R K ss k n 3 hlt HER.out (by rw [hsp]; rw [if_neg (by omega)]; rw [if_neg (by omega), if_pos rfl]) (by omega)
                    clear hsp
                    go_wp2
                    rw [HW1.out, HP1.out]
                    go_quiet (fail)
                    go_wp2_with fail
                    refine (dfbelow_any r R _).mono ?_
                    rintro e k1 ⟨rfl, rfl⟩
                    rw [b1]
                    go_wp2_with fail
                    refine (dfbelow_any l K _).mono ?_
                    rintro e k1 ⟨rfl, rfl⟩
                    rw [b2]
                    go_wp2
                    go_ret
                    exact ⟨by rw [HF.out]; rfl, HBx.out.trans ((HBr.out.drewN _).mono HBx.out.size)⟩
                  · have HNX : Hid (errTo (spE R K ss) (k + 1) = 0) := errTo_next _ k HER.out (by rw [hsp]; rw [if_neg (by omega)]; rw [if_neg (by omega), if_neg hu0])
                    have hu3 : ((u : Int) == 0) = false := by simpa using hu0
                    clear hsp
                    go_wp2
                    rw [HW1.out, HP1.out]
                    go_quiet (fail)
                    go_wp2_with fail
                    refine (dfbelow_any r R _).mono ?_
                    rintro e k1 ⟨rfl, rfl⟩
                    rw [b1]
                    go_wp2_with fail
                    refine (dfbelow_any l K _).mono ?_
                    rintro e k1 ⟨rfl, rfl⟩
                    rw [b2]
                    go_wp2
                    go_roundw
                    case rel => exact ⟨k + 1, by omega, by go_num, HNX, HBr.out.drewN _⟩
                    case measure => simp [intOf]; omega
                · have hu2 : K - l < (u : Int) := by omega
                  have HF : Hid (E = 5) := by
                    unfold Hid
                    rw [← HE.out]
                    exact sp_bad R K ss k n 5 hlt HER.out (by rw [hsp]; rw [if_neg (by omega)]; rw [if_pos (by omega)]) (by omega)
                  clear hsp
                  go_wp2
                  rw [HW1.out, HP1.out]
                  go_quiet (fail)
                  go_wp2_with fail
                  refine (dfbelow_any r R _).mono ?_
                  rintro e k1 ⟨rfl, rfl⟩
                  rw [b1]
                  go_wp2_with fail
                  refine (dfbelow_any l K _).mono ?_
                  rintro e k1 ⟨rfl, rfl⟩
                  rw [b2]
                  go_wp2
                  go_ret
                  exact ⟨by rw [HF.out]; rfl, HBx.out.trans ((HBr.out.drewN _).mono HBx.out.size)⟩
              · have b2 : belowB l K = false := by unfold belowB; simpa using hc
                have HF : Hid (E = 5) := by
                  unfold Hid
                  rw [← HE.out]
                  exact sp_bad R K ss k n 5 hlt HER.out (by rw [hsp]; rw [if_neg (by omega)]; rw [if_pos (by omega)]) (by omega)
                clear hsp
                go_wp2
                rw [HW1.out, HP1.out]
                go_quiet (fail)
                go_wp2_with fail
                refine (dfbelow_any r R _).mono ?_
                rintro e k1 ⟨rfl, rfl⟩
                rw [b1]
                go_wp2_with fail
                refine (dfbelow_any l K _).mono ?_
                rintro e k1 ⟨rfl, rfl⟩
                rw [b2]
                go_wp2
                go_ret
                exact ⟨by rw [HF.out]; rfl, HBx.out.trans ((HBr.out.drewN _).mono HBx.out.size)⟩
            · have b1 : belowB r R = false := by unfold belowB; simpa using hr
              have HF : Hid (E = 5) := by
                unfold Hid
                rw [← HE.out]
                exact sp_bad R K ss k n 5 hlt HER.out (by rw [hsp]; rw [if_neg (by omega)]; rw [if_pos (by omega)]) (by omega)
              clear hsp
              go_wp2
              rw [HW1.out, HP1.out]
              go_quiet (fail)
              go_wp2_with fail
              refine (dfbelow_any r R _).mono ?_
              rintro e k1 ⟨rfl, rfl⟩
              rw [b1]
              go_wp2
              go_ret
              exact ⟨by rw [HF.out]; rfl, HBx.out.trans ((HBr.out.drewN _).mono HBx.out.size)⟩
        · have HF : Hid (E = 0) := by
            unfold Hid
            rw [← HE.out, show n = k by omega]
            exact her.out
          have HBr := hide hbel
          clear hbel
          go_wp2
          go_ret
          exact ⟨by rw [HF.out]; rfl, HBx.out.trans (HBr.out.mono HBx.out.size)⟩
  · rw [if_pos hs] at hE
    subst hE
    by_cases hs1 : 1 ≤ R ∧ R ≤ 512
    · have s1 : sideB R = true := by unfold sideB; simpa using hs1
      have s2 : sideB K = false := by unfold sideB sizeN at *; simp; omega
      clear hs hs1
      go_enter Tryz.func34, Tryz.ntmps34
      go_wp2_with fail
      rw [HW.out]
      refine (dfside_any R W0).mono ?_
      rintro e k1 ⟨rfl, rfl⟩
      rw [s1]
      go_wp2_with fail
      refine (dfside_any K W0).mono ?_
      rintro e k1 ⟨rfl, rfl⟩
      rw [s2]
      go_wp2
      go_ret
      exact ⟨rfl, HBx.out⟩
    · have s1 : sideB R = false := by unfold sideB; simpa using hs1
      clear hs hs1
      go_enter Tryz.func34, Tryz.ntmps34
      go_wp2_with fail
      rw [HW.out]
      refine (dfside_any R W0).mono ?_
      rintro e k1 ⟨rfl, rfl⟩
      rw [s1]
      go_wp2
      go_ret
      exact ⟨rfl, HBx.out⟩
/-- A row of rows' values of the call's own. -/
structure OwnV (B : Nat) (w wr : World) (v : Value) (xs : List Value) : Prop where
  own : wr.ownsRow B 66 1 v xs.length xs
  bel : Below B w wr
  le : B ≤ wr.heap.size
/-- These values lie there. -/
def Vals (w : World) (ad : Addr) (xs : List Value) : Prop := (∀ j u, xs[j]? = some u → w.cell? (ad.add j) = some u) ∧ ∀ u ∈ xs, u.oneCell' = true
theorem Vals.below {w w' : World} {ad : Addr} {xs : List Value} (h : Vals w ad xs) (hb : Below w.heap.size w w') : Vals w' ad xs := by
  refine ⟨fun j u hu => ?_, h.2⟩
  have := h.1 j u hu
  rw [hb.cell (World.block_lt_of_cell? w _ this), this]
theorem OwnV.later {B : Nat} {w wr w1 : World} {v : Value} {xs : List Value} (h : OwnV B w wr v xs) (hb : Below wr.heap.size wr w1) : OwnV B w w1 v xs := by
  refine ⟨⟨h.own.1, ?_⟩, h.bel.trans (hb.mono h.le), Nat.le_trans h.le hb.size⟩
  rcases h.own.2 with h0 | ⟨g, cap, cur, hv, hB, hh, h1⟩
  · exact .inl h0
  · refine .inr ⟨g, cap, cur, hv, hB, ?_, h1⟩
    rw [hb.block g (Array.getElem?_eq_some_iff.1 hh).1, hh]
theorem OwnV.form {B : Nat} {w wr : World} {v : Value} {xs : List Value} (h : OwnV B w wr v xs) (hx : xs ≠ []) : ∃ g cap more, v = .slice (some ⟨g, 0, none⟩) xs.length cap ∧ B ≤ g ∧ Whole wr g 66 (xs ++ more) ∧ xs.length ≤ cap ∧ cap ≤ maxLen := by
  rcases h.own.2 with ⟨rfl, h0⟩ | ⟨g, cap, cur, rfl, hB, hh, hc, hm, hs, ht⟩
  · exact absurd (List.eq_nil_of_length_eq_zero h0) hx
  · refine ⟨g, cap, cur.toList.drop xs.length, rfl, hB, ?_, hc, hm⟩
    rw [Nat.mul_one] at ht
    have e := List.take_append_drop xs.length cur.toList
    rw [ht] at e
    unfold Whole
    rw [e]
    simpa using hh
/-! ### structs compared whole -/
theorem fieldsPlace : fieldsAre Tryz.prog 116 [(false, 3, 0), (false, 3, 1)] := by unfold fieldsAre; kernel_rfl
theorem eqlPlace (m n m' n' : Int) (w : World) : (binOp .eql 116 (.agg #[.int .i64 m, .int .i64 n]) (.agg #[.int .i64 m', .int .i64 n'])).run Tryz.prog w = .ok (.bool (eqM m n m' n')) w := by
  rw [run_eql_struct, run_equalIn_agg w 9999 116 _ _ Tryz.underlying116 Tryz.stoodInHeld116]
  have h3 := fieldsPlace
  unfold fieldsAre at h3
  generalize (Tryz.prog.fieldsOf 116).toList = fs at h3
  have hl : fs.length = 2 := by have := congrArg List.length h3; simpa using this
  match fs, hl with
  | [f0, f1], _ =>
    simp only [List.map_cons, List.map_nil, List.cons.injEq, Prod.mk.injEq, beq_eq_false_iff_ne, ne_eq, and_true] at h3
    obtain ⟨⟨n0, t0, o0⟩, n1, t1, o1⟩ := h3
    simp only [Op.eqFields, n0, n1, t0, t1, o0, o1, ne_eq, not_false_eq_true, if_true, Sem.run_bind, part3 #[Value.int .i64 m, .int .i64 n] 0 m rfl, part3 #[Value.int .i64 m, .int .i64 n] 1 n rfl,
      part3 #[Value.int .i64 m', .int .i64 n'] 0 m' rfl, part3 #[Value.int .i64 m', .int .i64 n'] 1 n' rfl, Result.andThen_ok, run_equalIn_int w _ 3 .i64 .i64 _ _ Tryz.underlying3, Sem.run_ite, Sem.run_pure]
    unfold eqM
    cases hf : m == m' <;> cases hg : n == n' <;> simp
def eqH (a b c d a' b' c' d' : Int) : Bool := (a == a') && ((b == b') && ((c == c') && (d == d')))
theorem fieldsHead : fieldsAre Tryz.prog 81 [(false, 3, 0), (false, 3, 1), (false, 3, 2), (false, 3, 3)] := by unfold fieldsAre; kernel_rfl
theorem eqlHead (a b c d a' b' c' d' : Int) (w : World) : (binOp .eql 81 (.agg #[.int .i64 a, .int .i64 b, .int .i64 c, .int .i64 d]) (.agg #[.int .i64 a', .int .i64 b', .int .i64 c', .int .i64 d'])).run Tryz.prog w = .ok (.bool (eqH a b c d a' b' c' d')) w := by
  rw [run_eql_struct, run_equalIn_agg w 9999 81 _ _ Tryz.underlying81 Tryz.stoodInHeld81]
  have h3 := fieldsHead
  unfold fieldsAre at h3
  generalize (Tryz.prog.fieldsOf 81).toList = fs at h3
  have hl : fs.length = 4 := by have := congrArg List.length h3; simpa using this
  match fs, hl with
  | [f0, f1, f2, f3], _ =>
    simp only [List.map_cons, List.map_nil, List.cons.injEq, Prod.mk.injEq, beq_eq_false_iff_ne, ne_eq, and_true] at h3
    obtain ⟨⟨n0, t0, o0⟩, ⟨n1, t1, o1⟩, ⟨n2, t2, o2⟩, n3, t3, o3⟩ := h3
    simp only [Op.eqFields, n0, n1, n2, n3, t0, t1, t2, t3, o0, o1, o2, o3, ne_eq, not_false_eq_true, if_true, Sem.run_bind, part3 #[Value.int .i64 a, .int .i64 b, .int .i64 c, .int .i64 d] 0 a rfl, part3 #[Value.int .i64 a, .int .i64 b, .int .i64 c, .int .i64 d] 1 b rfl,
      part3 #[Value.int .i64 a, .int .i64 b, .int .i64 c, .int .i64 d] 2 c rfl, part3 #[Value.int .i64 a, .int .i64 b, .int .i64 c, .int .i64 d] 3 d rfl,
      part3 #[Value.int .i64 a', .int .i64 b', .int .i64 c', .int .i64 d'] 0 a' rfl, part3 #[Value.int .i64 a', .int .i64 b', .int .i64 c', .int .i64 d'] 1 b' rfl,
      part3 #[Value.int .i64 a', .int .i64 b', .int .i64 c', .int .i64 d'] 2 c' rfl, part3 #[Value.int .i64 a', .int .i64 b', .int .i64 c', .int .i64 d'] 3 d' rfl, Result.andThen_ok, run_equalIn_int w _ 3 .i64 .i64 _ _ Tryz.underlying3, Sem.run_ite, Sem.run_pure]
    unfold eqH
    cases hf : a == a' <;> cases hg : b == b' <;> cases hi : c == c' <;> cases hj : d == d' <;> simp
theorem eqH_iff (a b c d a' b' c' d' : Int) : eqH a b c d a' b' c' d' = true ↔ a = a' ∧ b = b' ∧ c = c' ∧ d = d' := by unfold eqH; simp [beq_iff_eq]
theorem retP2 {R : Ending → World → Prop} {a : Act} {w : World} {fn : Func} {s : Nat} {q : Nat} {x0 x1 : Value} (hr : fn.results = #[.cell s 116]) (h4 : a.tmps.getD s undef = .pointer (some ⟨q, 0, none⟩)) (hd : a.defers = [])
    (hw : Whole w q 116 [x0, x1]) (hR : R (.returned (.agg #[x0, x1])) w) : bodyPost Tryz.prog fn R .ret a w := by
  have c0 : w.cell? ⟨q, 0, none⟩ = some x0 := hw.cell 0
  have c1 : w.cell? ⟨q, 1, none⟩ = some x1 := hw.cell 1
  clear hw
  rw [Array.getD_eq_getD_getElem?] at h4
  exact bodyPost_ret (v := .agg #[x0, x1]) (by simp [results, hr, h4, c0, c1, go_sem]) hd hR
theorem retH4 {R : Ending → World → Prop} {a : Act} {w : World} {fn : Func} {s : Nat} {q : Nat} {x0 x1 x2 x3 : Value} (hr : fn.results = #[.cell s 81]) (h4 : a.tmps.getD s undef = .pointer (some ⟨q, 0, none⟩)) (hd : a.defers = [])
    (hw : Whole w q 81 [x0, x1, x2, x3]) (hR : R (.returned (.agg #[x0, x1, x2, x3])) w) : bodyPost Tryz.prog fn R .ret a w := by
  have c0 : w.cell? ⟨q, 0, none⟩ = some x0 := hw.cell 0
  have c1 : w.cell? ⟨q, 1, none⟩ = some x1 := hw.cell 1
  have c2 : w.cell? ⟨q, 2, none⟩ = some x2 := hw.cell 2
  have c3 : w.cell? ⟨q, 3, none⟩ = some x3 := hw.cell 3
  clear hw
  rw [Array.getD_eq_getD_getElem?] at h4
  exact bodyPost_ret (v := .agg #[x0, x1, x2, x3]) (by simp [results, hr, h4, c0, c1, c2, c3, go_sem]) hd hR
theorem placeof_any (r l : Int) (A : Option Addr) (n c : Nat) (w : World) : Calls Tryz.prog 60 #[.agg #[.int .i64 r, .int .i64 l, .slice A n c]] w fun e w' => e = .returned (.agg #[.int .i64 r, .int .i64 l]) ∧ Below w.heap.size w w' := by
  have HB : Hid (Below w.heap.size w ((w.alloc (.cells #[.int .i64 r, .int .i64 l, .slice A n c] 68)).alloc (.cells #[.int .i64 r, .int .i64 l] 116))) := two_new w _ _ [.int .i64 r, .int .i64 l, .slice A n c] [.int .i64 r, .int .i64 l]
  go_enter Tryz.func60, Tryz.ntmps60
  go_wp2
  exact retP2 Tryz.results60 rfl rfl (whole_snd w _ 116 [.int .i64 r, .int .i64 l]) ⟨rfl, HB.out⟩
theorem headof_any (a b c d : Int) (A : Option Addr) (n k : Nat) (w : World) : Calls Tryz.prog 37 #[.agg #[.int .i64 a, .int .i64 b, .int .i64 c, .int .i64 d, .slice A n k]] w fun e w' => e = .returned (.agg #[.int .i64 a, .int .i64 b, .int .i64 c, .int .i64 d]) ∧ Below w.heap.size w w' := by
  have HB : Hid (Below w.heap.size w ((w.alloc (.cells #[.int .i64 a, .int .i64 b, .int .i64 c, .int .i64 d, .slice A n k] 25)).alloc (.cells #[.int .i64 a, .int .i64 b, .int .i64 c, .int .i64 d] 81))) := two_new w _ _ [.int .i64 a, .int .i64 b, .int .i64 c, .int .i64 d, .slice A n k] [.int .i64 a, .int .i64 b, .int .i64 c, .int .i64 d]
  go_enter Tryz.func37, Tryz.ntmps37
  go_wp2
  exact retH4 Tryz.results37 rfl rfl (whole_snd w _ 81 [.int .i64 a, .int .i64 b, .int .i64 c, .int .i64 d]) ⟨rfl, HB.out⟩

/-! ### spans -/
theorem Sp.same {a b : Sp} : a = b ↔ (a.row = b.row ∧ a.col = b.col) ∧ a.cs = b.cs := by
  cases a; cases b; simp [and_assoc]
theorem samespan_any (a b : Sp) (A C : Option Addr) (n m c d : Nat) (w : World) (ha : Cels .i32 w A a.cs) (hb : Cels .i32 w C b.cs) (hn : a.cs.length = n) (hm : b.cs.length = m) (hl : n ≤ 1000000) :
    Calls Tryz.prog 39 #[.agg #[.int .i64 a.row, .int .i64 a.col, .slice A n c], .agg #[.int .i64 b.row, .int .i64 b.col, .slice C m d]] w (Said (decide (a = b)) w) := by
  have eP := eqlPlace
  obtain ⟨W0, hW0⟩ : ∃ W0, (w.alloc (.cells #[.int .i64 a.row, .int .i64 a.col, .slice A n c] 68)).alloc (.cells #[.int .i64 b.row, .int .i64 b.col, .slice C m d] 68) = W0 := ⟨_, rfl⟩
  have HB0 : Hid (Below w.heap.size w W0) := by unfold Hid; rw [← hW0]; exact two_new w _ _ [.int .i64 a.row, .int .i64 a.col, .slice A n c] [.int .i64 b.row, .int .i64 b.col, .slice C m d]
  have HX0 : Hid (Whole W0 w.heap.size 68 [.int .i64 a.row, .int .i64 a.col, .slice A n c]) := by unfold Hid; rw [← hW0]; exact (Whole.new w 68 [.int .i64 a.row, .int .i64 a.col, .slice A n c]).alloc _
  have HY0 : Hid (Whole W0 (w.heap.size + 1) 68 [.int .i64 b.row, .int .i64 b.col, .slice C m d]) := by unfold Hid; rw [← hW0]; exact whole_snd w _ 68 [.int .i64 b.row, .int .i64 b.col, .slice C m d]
  have HI := hide (ha.below HB0.out)
  have HJ := hide (hb.below HB0.out)
  have HW0 := hide hW0
  clear hW0
  have HN := hide hn
  have HM := hide hm
  clear ha hb hn hm
  by_cases hq : a.row = b.row ∧ a.col = b.col
  · have e1 : eqM a.row a.col b.row b.col = true := by unfold eqM; simp [hq.1, hq.2]
    have HS : Hid (decide (a = b) = decide (a.cs = b.cs)) := by unfold Hid; rw [Bool.eq_iff_iff, decide_eq_true_iff, decide_eq_true_iff, Sp.same]; simp [hq.1, hq.2]
    clear hq
    go_enter Tryz.func39, Tryz.ntmps39
    go_wp2
    rw [HW0.out]
    refine rgH (fun w' => Below W0.heap.size W0 w') [(true, 0), (true, 2), (false, 1), (false, 3), (false, 4), (false, 5), (true, 6), (true, 8), (true, 7), (false, 9), (false, 10), (false, 11), (false, 12)] ((Below.refl _ _).drewN 1) ?_
    refine stH (hy := fun w hS => by obtain ⟨x0, x1, x2, lx⟩ := cells3 (HX0.out.later hS); go_simp <;> with_reducible rfl) (h := ?_)
    refine stH (hy := fun w hS => by obtain ⟨x0, x1, x2, lx⟩ := cells3 (HY0.out.later hS); go_simp <;> with_reducible rfl) (h := ?_)
    refine alH fun K hK => ?_
    go_wp2_with fail
    refine (placeof_any a.row a.col A n c W0.drew).mono ?_
    rintro e k1 ⟨rfl, hb⟩
    have Bk1 : Below W0.heap.size W0 k1 := ((Below.refl W0.heap.size W0).drewN 1).trans hb
    clear hb
    go_wp2
    refine hK.out _ _ (Bk1) ?_
    clear hK K
    refine alH fun K hK => ?_
    go_wp2_with fail
    refine (placeof_any b.row b.col C m d k1).mono ?_
    rintro e k2 ⟨rfl, hb⟩
    have Bk2 : Below W0.heap.size W0 k2 := Bk1.trans (hb.mono Bk1.size)
    clear hb
    go_wp2
    refine hK.out _ _ (Bk2) ?_
    clear hK K
    refine alH fun K hK => ?_
    go_wp2
    refine hK.out _ _ (Bk2) ?_
    clear hK K
    refine alH fun K hK => ?_
    go_wp2
    refine hK.out _ _ (Bk2) ?_
    clear hK K
    iterate 2 refine stH (h := ?_)
    refine stH (hy := fun w hS => by obtain ⟨x0, x1, x2, lx⟩ := cells3 (HX0.out.later hS); go_simp <;> with_reducible rfl) (h := ?_)
    obtain ⟨x0, x1, x2, lx⟩ := cells3 (HY0.out.later Bk2)
    refine alH fun K hK => ?_
    go_wp2
    refine hK.out _ _ (Bk2) ?_
    clear hK K
    clear x0 x1 x2 lx
    refine alH fun K hK => ?_
    go_wp2_with fail
    refine (same6_any A C n c m d a.cs b.cs k2 (HI.out.below Bk2) (HJ.out.below Bk2) HN.out HM.out hl).mono ?_
    rintro e k3 ⟨rfl, hb⟩
    have Bk3 : Below W0.heap.size W0 k3 := Bk2.trans (hb.mono Bk2.size)
    clear hb
    go_wp2
    refine hK.out _ _ (Bk3) ?_
    clear hK K
    refine alH fun K hK => ?_
    go_wp2
    refine hK.out _ _ (Bk3) ?_
    clear hK K
    refine alH fun K hK => ?_
    go_wp2
    refine hK.out _ _ (Bk3) ?_
    clear hK K
    refine chainH_nil ?_
    have HB3 := hide (HB0.out.trans (Bk3.mono HB0.out.size))
    clear Bk1 Bk2 Bk3
    go_wp2
    go_ret
    exact ⟨ret_bool HS.out.symm, HB3.out⟩
  · have e1 : eqM a.row a.col b.row b.col = false := by
      unfold eqM
      rw [Bool.and_eq_false_iff]
      by_cases q : a.row = b.row
      · right; simp; intro q2; exact hq ⟨q, q2⟩
      · left; simp; exact q
    have HS : Hid (decide (a = b) = false) := by unfold Hid; rw [decide_eq_false_iff_not, Sp.same]; exact fun h => hq h.1
    clear hq
    go_enter Tryz.func39, Tryz.ntmps39
    go_wp2
    rw [HW0.out]
    refine rgH (fun w' => Below W0.heap.size W0 w') [(true, 0), (true, 2), (false, 1), (false, 3), (false, 4), (false, 5), (true, 6), (true, 8), (true, 7), (false, 9), (false, 10), (false, 11), (false, 12)] ((Below.refl _ _).drewN 1) ?_
    refine stH (hy := fun w hS => by obtain ⟨x0, x1, x2, lx⟩ := cells3 (HX0.out.later hS); go_simp <;> with_reducible rfl) (h := ?_)
    refine stH (hy := fun w hS => by obtain ⟨x0, x1, x2, lx⟩ := cells3 (HY0.out.later hS); go_simp <;> with_reducible rfl) (h := ?_)
    refine alH fun K hK => ?_
    go_wp2_with fail
    refine (placeof_any a.row a.col A n c W0.drew).mono ?_
    rintro e k1 ⟨rfl, hb⟩
    have Bk1 : Below W0.heap.size W0 k1 := ((Below.refl W0.heap.size W0).drewN 1).trans hb
    clear hb
    go_wp2
    refine hK.out _ _ (Bk1) ?_
    clear hK K
    refine alH fun K hK => ?_
    go_wp2_with fail
    refine (placeof_any b.row b.col C m d k1).mono ?_
    rintro e k2 ⟨rfl, hb⟩
    have Bk2 : Below W0.heap.size W0 k2 := Bk1.trans (hb.mono Bk1.size)
    clear hb
    go_wp2
    refine hK.out _ _ (Bk2) ?_
    clear hK K
    refine alH fun K hK => ?_
    go_wp2
    refine hK.out _ _ (Bk2) ?_
    clear hK K
    refine alH fun K hK => ?_
    go_wp2
    refine hK.out _ _ (Bk2) ?_
    clear hK K
    iterate 3 refine skH (h := ?_)
    iterate 2 refine paH (Bk2) (h := ?_)
    refine alH fun K hK => ?_
    go_wp2
    refine hK.out _ _ (Bk2) ?_
    clear hK K
    refine alH fun K hK => ?_
    go_wp2
    refine hK.out _ _ (Bk2) ?_
    clear hK K
    refine chainH_nil ?_
    have HB3 := hide (HB0.out.trans (Bk2.mono HB0.out.size))
    clear Bk1 Bk2
    go_wp2
    go_ret
    exact ⟨ret_bool HS.out.symm, HB3.out⟩
/-! ### rows of spans -/
theorem sp_ext {x y : List Sp} (hl : x.length = y.length) (h : ∀ j, j < x.length → sAt x j = sAt y j) : x = y := by
  apply List.ext_getElem hl
  intro i h1 h2
  have := h i h1
  unfold sAt at this
  rw [List.getD_eq_getElem?_getD, List.getD_eq_getElem?_getD, List.getElem?_eq_getElem h1, List.getElem?_eq_getElem h2] at this
  simpa using this
theorem equalfs_any (C C' : Nat) (te t te' t' : TypeId) (A A' : Option Addr) (n m c d : Nat) (es fs : List Sp) (w : World) (ha : Sps C te t .i32 w A es) (hb : Sps C' te' t' .i32 w A' fs) (hC : C ≤ w.heap.size) (hC' : C' ≤ w.heap.size) (hn : es.length = n) (hm : fs.length = m) (hl : n ≤ 1000000) (hbd : ∀ s ∈ es, s.cs.length ≤ 1000000) :
    Calls Tryz.prog 38 #[.slice A n c, .slice A' m d, .func (.func 39) #[] #[]] w (Said (decide (es = fs)) w) := by
  have HN := hide hn
  have HM := hide hm
  have HA := hide ha
  have HB := hide hb
  have HBD := hide hbd
  clear hn hm ha hb hbd
  by_cases hnm : n = m
  · subst hnm
    go_enter Tryz.func38, Tryz.ntmps38
    go_wp2
    go_loopw [7, 8, 9, 17] (fun _ _ _ i wr => ∃ k : Nat, k ≤ n ∧ i = .int .i64 k ∧ Hid (∀ j, j < k → sAt es j = sAt fs j) ∧ Below w.heap.size w wr) (fun _ _ _ i _ => n - (intOf i).toNat)
    case atStart => exact ⟨0, Nat.zero_le _, rfl, (by unfold Hid; intro j hj; omega), Below.refl _ _⟩
    case round =>
      obtain ⟨k, hk, rfl, hall, hbel⟩ := hrel
      by_cases hlt : k < n
      · obtain ⟨b, off, A1, c1, rfl, lb, x0, x1, x2, xi, -⟩ := (HA.out.below hbel hC).at (i := k) (by rw [HN.out]; exact hlt)
        obtain ⟨b2, off2, A2, c2, rfl, lb2, y0, y1, y2, yi, -⟩ := (HB.out.below hbel hC').at (i := k) (by rw [HM.out]; exact hlt)
        have hlu : (sAt es k).cs.length ≤ 1000000 := HBD.out _ (mem_sAt es k (by rw [HN.out]; exact hlt))
        obtain ⟨u, hu⟩ : ∃ u, sAt es k = u := ⟨_, rfl⟩
        obtain ⟨v, hv⟩ : ∃ v, sAt fs k = v := ⟨_, rfl⟩
        rw [hu] at x0 x1 x2 xi hlu
        rw [hv] at y0 y1 y2 yi
        obtain ⟨nu, hnu⟩ : ∃ nu, u.cs.length = nu := ⟨_, rfl⟩
        obtain ⟨nv, hnv⟩ : ∃ nv, v.cs.length = nv := ⟨_, rfl⟩
        rw [hnu] at x2 hlu
        rw [hnv] at y2
        obtain ⟨W, hW⟩ : ∃ W, ((wr.alloc (.cells #[.int .i64 u.row, .int .i64 u.col, .slice A1 nu c1] 68)).alloc (.cells #[.int .i64 v.row, .int .i64 v.col, .slice A2 nv c2] 68)) = W := ⟨_, rfl⟩
        have hbW : Below wr.heap.size wr W := by rw [← hW]; exact ((Below.refl _ _).alloc (Nat.le_refl _) _).alloc (by simp) _
        have HI := hide (xi.cels.below hbW)
        have HJ := hide (yi.cels.below hbW)
        have HW := hide hW
        have HU := hide hu
        have HV := hide hv
        have HBe : Hid (Below w.heap.size w W) := hbel.trans (hbW.mono hbel.size)
        have HNU := hide hnu
        have HNV := hide hnv
        clear hbel hbW hW hu hv xi yi hnu hnv
        go_wp2_with fail
        rw [HW.out]
        refine (samespan_any u v A1 A2 nu nv c1 c2 W HI.out HJ.out HNU.out HNV.out hlu).mono ?_
        obtain ⟨bo, hbo⟩ : ∃ bo, decide (u = v) = bo := ⟨_, rfl⟩
        rw [hbo]
        have HBO := hide hbo
        clear hbo
        rintro e w1 ⟨rfl, hb1⟩
        have HB1 := hide (HBe.out.trans (hb1.mono HBe.out.size))
        clear hb1
        cases bo
        · have HF : Hid (decide (es = fs) = false) := by
            unfold Hid
            rw [decide_eq_false_iff_not]
            intro e
            have := HBO.out
            rw [← HU.out, ← HV.out, e] at this
            simp at this
          go_wp2
          go_ret
          exact ⟨ret_bool HF.out.symm, HB1.out⟩
        · have HALL : Hid (∀ j, j < k + 1 → sAt es j = sAt fs j) := by
            unfold Hid
            intro j hj
            by_cases e : j = k
            · rw [e, HU.out, HV.out]; exact of_decide_eq_true HBO.out
            · exact hall.out j (by omega)
          go_wp2
          go_roundw
          case rel => exact ⟨k + 1, by omega, by go_num, HALL, HB1.out⟩
          case measure => simp [intOf]; omega
      · have HE : Hid (decide (es = fs) = true) := by
          unfold Hid
          rw [decide_eq_true_iff]
          exact sp_ext (by rw [HN.out, HM.out]) (fun j hj => hall.out j (by rw [HN.out] at hj; omega))
        go_wp2
        go_ret
        exact ⟨ret_bool HE.out.symm, hbel⟩
  · have HF : Hid (decide (es = fs) = false) := by
      unfold Hid
      rw [decide_eq_false_iff_not]
      intro e; apply hnm; rw [← HN.out, ← HM.out, e]
    have hq : ((n : Int) != (m : Int)) = true := by simp; omega
    clear hnm
    go_enter Tryz.func38, Tryz.ntmps38
    go_wp2
    go_ret
    exact ⟨ret_bool HF.out.symm, Below.refl _ _⟩
/-! ### differences -/
theorem Df.same {a b : Df} : a = b ↔ (a.rows = b.rows ∧ a.cols = b.cols ∧ a.row = b.row ∧ a.col = b.col) ∧ a.ss = b.ss := by
  cases a; cases b; simp [and_assoc]
theorem dfsame_any (C C' : Nat) (te t te' t' : TypeId) (a b : Df) (A A' : Option Addr) (n m c d : Nat) (w : World) (ha : Sps C te t .i32 w A a.ss) (hb : Sps C' te' t' .i32 w A' b.ss) (hC : C ≤ w.heap.size) (hC' : C' ≤ w.heap.size) (hn : a.ss.length = n) (hm : b.ss.length = m) (hl : n ≤ 1000000) (hbd : ∀ s ∈ a.ss, s.cs.length ≤ 1000000) :
    Calls Tryz.prog 24 #[.agg #[.int .i64 a.rows, .int .i64 a.cols, .int .i64 a.row, .int .i64 a.col, .slice A n c], .agg #[.int .i64 b.rows, .int .i64 b.cols, .int .i64 b.row, .int .i64 b.col, .slice A' m d]] w (Said (decide (a = b)) w) := by
  have eP := eqlHead
  obtain ⟨W0, hW0⟩ : ∃ W0, (w.alloc (.cells #[.int .i64 a.rows, .int .i64 a.cols, .int .i64 a.row, .int .i64 a.col, .slice A n c] 25)).alloc (.cells #[.int .i64 b.rows, .int .i64 b.cols, .int .i64 b.row, .int .i64 b.col, .slice A' m d] 25) = W0 := ⟨_, rfl⟩
  have HB0 : Hid (Below w.heap.size w W0) := by unfold Hid; rw [← hW0]; exact two_new w _ _ [.int .i64 a.rows, .int .i64 a.cols, .int .i64 a.row, .int .i64 a.col, .slice A n c] [.int .i64 b.rows, .int .i64 b.cols, .int .i64 b.row, .int .i64 b.col, .slice A' m d]
  have HX0 : Hid (Whole W0 w.heap.size 25 [.int .i64 a.rows, .int .i64 a.cols, .int .i64 a.row, .int .i64 a.col, .slice A n c]) := by unfold Hid; rw [← hW0]; exact (Whole.new w 25 [.int .i64 a.rows, .int .i64 a.cols, .int .i64 a.row, .int .i64 a.col, .slice A n c]).alloc _
  have HY0 : Hid (Whole W0 (w.heap.size + 1) 25 [.int .i64 b.rows, .int .i64 b.cols, .int .i64 b.row, .int .i64 b.col, .slice A' m d]) := by unfold Hid; rw [← hW0]; exact whole_snd w _ 25 [.int .i64 b.rows, .int .i64 b.cols, .int .i64 b.row, .int .i64 b.col, .slice A' m d]
  have HI := hide (ha.below HB0.out hC)
  have HJ := hide (hb.below HB0.out hC')
  have HW0 := hide hW0
  clear hW0
  have HN := hide hn
  have HM := hide hm
  have HBD := hide hbd
  have HC : Hid (C ≤ W0.heap.size) := Nat.le_trans hC HB0.out.size
  have HC' : Hid (C' ≤ W0.heap.size) := Nat.le_trans hC' HB0.out.size
  clear ha hb hn hm hbd hC hC'
  by_cases hq : a.rows = b.rows ∧ a.cols = b.cols ∧ a.row = b.row ∧ a.col = b.col
  · have e1 : eqH a.rows a.cols a.row a.col b.rows b.cols b.row b.col = true := (eqH_iff _ _ _ _ _ _ _ _).2 hq
    have HS : Hid (decide (a = b) = decide (a.ss = b.ss)) := by unfold Hid; rw [Bool.eq_iff_iff, decide_eq_true_iff, decide_eq_true_iff, Df.same]; exact ⟨fun h => h.2, fun h => ⟨hq, h⟩⟩
    clear hq
    go_enter Tryz.func24, Tryz.ntmps24
    go_wp2
    rw [HW0.out]
    refine rgH (fun w' => Below W0.heap.size W0 w') [(true, 0), (true, 2), (false, 1), (false, 3), (false, 4), (false, 5), (true, 6), (true, 8), (true, 7), (false, 9), (false, 10), (false, 11), (false, 12)] ((Below.refl _ _).drewN 1) ?_
    refine stH (hy := fun w hS => by obtain ⟨x0, x1, x2, x3, x4, lx⟩ := cells5 (HX0.out.later hS); go_simp <;> with_reducible rfl) (h := ?_)
    refine stH (hy := fun w hS => by obtain ⟨x0, x1, x2, x3, x4, lx⟩ := cells5 (HY0.out.later hS); go_simp <;> with_reducible rfl) (h := ?_)
    refine alH fun K hK => ?_
    go_wp2_with fail
    refine (headof_any a.rows a.cols a.row a.col A n c W0.drew).mono ?_
    rintro e k1 ⟨rfl, hb⟩
    have Bk1 : Below W0.heap.size W0 k1 := ((Below.refl W0.heap.size W0).drewN 1).trans hb
    clear hb
    go_wp2
    refine hK.out _ _ (Bk1) ?_
    clear hK K
    refine alH fun K hK => ?_
    go_wp2_with fail
    refine (headof_any b.rows b.cols b.row b.col A' m d k1).mono ?_
    rintro e k2 ⟨rfl, hb⟩
    have Bk2 : Below W0.heap.size W0 k2 := Bk1.trans (hb.mono Bk1.size)
    clear hb
    go_wp2
    refine hK.out _ _ (Bk2) ?_
    clear hK K
    refine alH fun K hK => ?_
    go_wp2
    refine hK.out _ _ (Bk2) ?_
    clear hK K
    refine alH fun K hK => ?_
    go_wp2
    refine hK.out _ _ (Bk2) ?_
    clear hK K
    iterate 2 refine stH (h := ?_)
    refine stH (hy := fun w hS => by obtain ⟨x0, x1, x2, x3, x4, lx⟩ := cells5 (HX0.out.later hS); go_simp <;> with_reducible rfl) (h := ?_)
    obtain ⟨x0, x1, x2, x3, x4, lx⟩ := cells5 (HY0.out.later Bk2)
    refine alH fun K hK => ?_
    go_wp2
    refine hK.out _ _ (Bk2) ?_
    clear hK K
    clear x0 x1 x2 x3 x4 lx
    refine alH fun K hK => ?_
    go_wp2_with fail
    refine (equalfs_any C C' te t te' t' A A' n m c d a.ss b.ss k2 (HI.out.below Bk2 HC.out) (HJ.out.below Bk2 HC'.out) (Nat.le_trans HC.out Bk2.size) (Nat.le_trans HC'.out Bk2.size) HN.out HM.out hl HBD.out).mono ?_
    rintro e k3 ⟨rfl, hb⟩
    have Bk3 : Below W0.heap.size W0 k3 := Bk2.trans (hb.mono Bk2.size)
    clear hb
    go_wp2
    refine hK.out _ _ (Bk3) ?_
    clear hK K
    refine alH fun K hK => ?_
    go_wp2
    refine hK.out _ _ (Bk3) ?_
    clear hK K
    refine alH fun K hK => ?_
    go_wp2
    refine hK.out _ _ (Bk3) ?_
    clear hK K
    refine chainH_nil ?_
    have HB3 := hide (HB0.out.trans (Bk3.mono HB0.out.size))
    clear Bk1 Bk2 Bk3
    go_wp2
    go_ret
    exact ⟨ret_bool HS.out.symm, HB3.out⟩
  · have e1 : eqH a.rows a.cols a.row a.col b.rows b.cols b.row b.col = false := by
      rw [Bool.eq_false_iff]; intro h; exact hq ((eqH_iff _ _ _ _ _ _ _ _).1 h)
    have HS : Hid (decide (a = b) = false) := by unfold Hid; rw [decide_eq_false_iff_not, Df.same]; exact fun h => hq h.1
    clear hq
    go_enter Tryz.func24, Tryz.ntmps24
    go_wp2
    rw [HW0.out]
    refine rgH (fun w' => Below W0.heap.size W0 w') [(true, 0), (true, 2), (false, 1), (false, 3), (false, 4), (false, 5), (true, 6), (true, 8), (true, 7), (false, 9), (false, 10), (false, 11), (false, 12)] ((Below.refl _ _).drewN 1) ?_
    refine stH (hy := fun w hS => by obtain ⟨x0, x1, x2, x3, x4, lx⟩ := cells5 (HX0.out.later hS); go_simp <;> with_reducible rfl) (h := ?_)
    refine stH (hy := fun w hS => by obtain ⟨x0, x1, x2, x3, x4, lx⟩ := cells5 (HY0.out.later hS); go_simp <;> with_reducible rfl) (h := ?_)
    refine alH fun K hK => ?_
    go_wp2_with fail
    refine (headof_any a.rows a.cols a.row a.col A n c W0.drew).mono ?_
    rintro e k1 ⟨rfl, hb⟩
    have Bk1 : Below W0.heap.size W0 k1 := ((Below.refl W0.heap.size W0).drewN 1).trans hb
    clear hb
    go_wp2
    refine hK.out _ _ (Bk1) ?_
    clear hK K
    refine alH fun K hK => ?_
    go_wp2_with fail
    refine (headof_any b.rows b.cols b.row b.col A' m d k1).mono ?_
    rintro e k2 ⟨rfl, hb⟩
    have Bk2 : Below W0.heap.size W0 k2 := Bk1.trans (hb.mono Bk1.size)
    clear hb
    go_wp2
    refine hK.out _ _ (Bk2) ?_
    clear hK K
    refine alH fun K hK => ?_
    go_wp2
    refine hK.out _ _ (Bk2) ?_
    clear hK K
    refine alH fun K hK => ?_
    go_wp2
    refine hK.out _ _ (Bk2) ?_
    clear hK K
    iterate 3 refine skH (h := ?_)
    iterate 2 refine paH (Bk2) (h := ?_)
    refine alH fun K hK => ?_
    go_wp2
    refine hK.out _ _ (Bk2) ?_
    clear hK K
    refine alH fun K hK => ?_
    go_wp2
    refine hK.out _ _ (Bk2) ?_
    clear hK K
    refine chainH_nil ?_
    have HB3 := hide (HB0.out.trans (Bk2.mono HB0.out.size))
    clear Bk1 Bk2
    go_wp2
    go_ret
    exact ⟨ret_bool HS.out.symm, HB3.out⟩
end
end Go.Proofs.YtcbdokocnjoilaaGreatDoor
