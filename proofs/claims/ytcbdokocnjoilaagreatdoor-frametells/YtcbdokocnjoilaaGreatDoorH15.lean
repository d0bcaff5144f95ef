/-
  Contracts and plain mathematics of DRef1, GRef6, GDo.
-/
import Derived.Test.YtcbdokocnjoilaaGreatDoorH14
import Derived.Test.YtcbdokocnjoilaaGreatDoorH5
import Derived.BigQuiet
import Derived.Test.YtcbdokocnjoilaaGreatDoorH13
namespace Go.Proofs.YtcbdokocnjoilaaGreatDoor
set_option maxRecDepth 100000
set_option linter.unusedVariables false
set_option maxHeartbeats 8000000
section
open Go.ChangeShapes Go.WideShapes Go.ChangeAt Go.RowKit
theorem rdcheck_any (C : Nat) (te t : TypeId) (d : Df) (A : Option Addr) (n c : Nat) (w : World) (h : Sps C te t .i64 w A d.ss) (hC : C ≤ w.heap.size) (hn : d.ss.length = n) (hl : n ≤ 1000000) :
    Calls Tryz.prog 31 #[.agg #[.int .i64 d.rows, .int .i64 d.cols, .int .i64 d.row, .int .i64 d.col, .slice A n c]] w (Num .i64 (checkD d) w) := by
  obtain ⟨R, K, r0, l0, ss⟩ := d
  simp only at h hn ⊢
  obtain ⟨W0, hW0⟩ : ∃ W0, w.alloc (.cells #[.int .i64 R, .int .i64 K, .int .i64 r0, .int .i64 l0, .slice A n c] 32) = W0 := ⟨_, rfl⟩
  have HBx : Hid (Below w.heap.size w W0) := by unfold Hid; rw [← hW0]; exact (Below.refl _ _).alloc (Nat.le_refl _) _
  have HX : Hid (Whole W0 w.heap.size 32 [.int .i64 R, .int .i64 K, .int .i64 r0, .int .i64 l0, .slice A n c]) := by unfold Hid; rw [← hW0]; exact Whole.new w 32 [.int .i64 R, .int .i64 K, .int .i64 r0, .int .i64 l0, .slice A n c]
  have HA := hide (h.below HBx.out hC)
  have HC : Hid (C ≤ W0.heap.size) := Nat.le_trans hC HBx.out.size
  have HN := hide hn
  have HW := hide hW0
  clear h hn hW0 hC
  obtain ⟨d0, d1, d2, d3, d4, ld⟩ := cells5 HX.out
  obtain ⟨E, hE⟩ : ∃ E, checkD ⟨R, K, r0, l0, ss⟩ = E := ⟨_, rfl⟩
  rw [hE]
  unfold checkD at hE
  simp only at hE
  rw [HN.out] at hE
  by_cases hs : sizeN R K
  · rw [if_neg (fun q => q hs)] at hE
    have s1 : sizeB R K = true := by unfold sizeB; simpa using hs
    have K1 : K ≤ 512 := hs.2.2
    clear hs
    by_cases hp0 : r0 < 0
    · rw [if_pos (by omega)] at hE
      subst hE
      go_enter Tryz.func31, Tryz.ntmps31
      go_wp2_with fail
      rw [HW.out]
      refine (rsize_any R K W0).mono ?_
      rintro e k1 ⟨rfl, rfl⟩
      rw [s1]
      go_wp2
      go_ret
      exact ⟨rfl, HBx.out⟩
    by_cases hp1 : R ≤ r0
    · rw [if_pos (by omega)] at hE
      subst hE
      go_enter Tryz.func31, Tryz.ntmps31
      go_wp2_with fail
      rw [HW.out]
      refine (rsize_any R K W0).mono ?_
      rintro e k1 ⟨rfl, rfl⟩
      rw [s1]
      go_wp2
      go_ret
      exact ⟨rfl, HBx.out⟩
    by_cases hp2 : l0 < 0
    · rw [if_pos (by omega)] at hE
      subst hE
      go_enter Tryz.func31, Tryz.ntmps31
      go_wp2_with fail
      rw [HW.out]
      refine (rsize_any R K W0).mono ?_
      rintro e k1 ⟨rfl, rfl⟩
      rw [s1]
      go_wp2
      go_ret
      exact ⟨rfl, HBx.out⟩
    by_cases hp3 : K ≤ l0
    · rw [if_pos (by omega)] at hE
      subst hE
      go_enter Tryz.func31, Tryz.ntmps31
      go_wp2_with fail
      rw [HW.out]
      refine (rsize_any R K W0).mono ?_
      rintro e k1 ⟨rfl, rfl⟩
      rw [s1]
      go_wp2
      go_ret
      exact ⟨rfl, HBx.out⟩
    rw [if_neg (by omega)] at hE
    have HE := hide hE
    clear hE
    go_enter Tryz.func31, Tryz.ntmps31
    go_wp2_with fail
    rw [HW.out]
    refine (rsize_any R K W0).mono ?_
    rintro e k1 ⟨rfl, rfl⟩
    rw [s1]
    go_wp2
    clear d0 d1 d2 d3 d4 ld s1 hp0 hp1 hp2 hp3
    go_loopw [3, 4] (fun i _ wr => ∃ k : Nat, k ≤ n ∧ i = .int .i64 k ∧ Hid (errTo (spE R K ss) k = 0) ∧ Below W0.heap.size W0 wr) (fun i _ _ => n - (intOf i).toNat)
    case atStart => exact ⟨0, Nat.zero_le _, rfl, rfl, Below.refl _ _⟩
    case round =>
      obtain ⟨k, hk, rfl, her, hbel⟩ := hrel
      obtain ⟨d0, d1, d2, d3, d4, ld⟩ := cells5 (HX.out.later hbel)
      by_cases hlt : k < n
      · obtain ⟨b, off, A1, c1, rfl, lb, x0, x1, x2, -⟩ := (HA.out.below hbel HC.out).at (i := k) (by rw [HN.out]; exact hlt)
        have hq : 0 < k → wr.cell? ⟨b, off + (k - 1) * 3, none⟩ = some (.int .i64 (sAt ss (k - 1)).row) := by
          intro q
          obtain ⟨b', off', A1', c1', e1, lb', y0, -⟩ := (HA.out.below hbel HC.out).at (i := k - 1) (by rw [HN.out]; omega)
          cases e1
          exact y0
        have hsp : spE R K ss k = if 0 < k ∧ (sAt ss k).row ≤ (sAt ss (k - 1)).row then 17 else if (sAt ss k).row < 0 ∨ R ≤ (sAt ss k).row ∨ (sAt ss k).col < 0 ∨ K ≤ (sAt ss k).col ∨ K - (sAt ss k).col < ((sAt ss k).cs.length : Int) then 5 else if (sAt ss k).cs.length = 0 then 3 else 0 := rfl
        obtain ⟨x, hx⟩ : ∃ x, sAt ss k = x := ⟨_, rfl⟩
        rw [hx] at x0 x1 x2 hsp
        obtain ⟨r, l, cs⟩ := x
        simp only at x0 x1 x2 hsp
        obtain ⟨u, hu⟩ : ∃ u, cs.length = u := ⟨_, rfl⟩
        rw [hu] at x2 hsp
        obtain ⟨q, hqq⟩ : ∃ q, (sAt ss (k - 1)).row = q := ⟨_, rfl⟩
        rw [hqq] at hsp hq
        have HBr : Hid (Below W0.heap.size W0 (wr.alloc (.cells #[.int .i64 r, .int .i64 l, .slice A1 u c1] 73))) := hbel.alloc hbel.size _
        obtain ⟨W1, hW1⟩ : ∃ W1, wr.alloc (.cells #[.int .i64 r, .int .i64 l, .slice A1 u c1] 73) = W1 := ⟨_, rfl⟩
        obtain ⟨P1, hP1⟩ : ∃ P1, wr.heap.size = P1 := ⟨_, rfl⟩
        have z0 : Whole W1 P1 73 [.int .i64 r, .int .i64 l, .slice A1 u c1] := by rw [← hW1, ← hP1]; exact Whole.new wr 73 [.int .i64 r, .int .i64 l, .slice A1 u c1]
        obtain ⟨z0, z1, z2, lz⟩ := cells3 z0
        have hb1 : Below wr.heap.size wr W1 := by rw [← hW1]; exact new1W _ _
        have hq1 : 0 < k → W1.cell? ⟨b, off + (k - 1) * 3, none⟩ = some (.int .i64 q) := fun hk => by
          have h2 := hq hk
          rw [hb1.cell (block_lt_of_cell h2)]; exact h2
        obtain ⟨f0, f1, f2, f3, f4, lf⟩ := cells5 ((HX.out.later hbel).later hb1)
        rw [hW1] at HBr
        have HW1 := hide hW1
        have HP1 := hide hP1
        have HER := hide her.out
        have HX1 := hide hx
        clear hx hu hqq hW1 hP1 hb1 her hbel hq
        by_cases hk0 : 0 < k
        · have y0 := hq1 hk0
          have wk : ((k : Int) - 1) = ((k - 1 : Nat) : Int) := by omega
          have wk2 : IntKind.i64.wrap ((k : Int) - 1) = ((k - 1 : Nat) : Int) := by rw [wr64 _ (by omega)]; omega
          clear hq1
          by_cases h17 : r ≤ q
          ·
            have HF : Hid (E = 17) := by
              unfold Hid
              rw [← HE.out]
              exact sp_bad R K ss k n 17 hlt HER.out (by rw [hsp]; rw [if_pos ⟨hk0, h17⟩]) (by omega)
            clear hsp
            go_wp2
            rw [HW1.out, HP1.out]
            go_quiet (fail)
            go_wp2
            go_ret
            exact ⟨by rw [HF.out]; rfl, HBx.out.trans ((HBr.out.drewN _).mono HBx.out.size)⟩
          ·
            by_cases hr0 : r < 0
            ·
              have HF : Hid (E = 5) := by
                unfold Hid
                rw [← HE.out]
                exact sp_bad R K ss k n 5 hlt HER.out (by rw [hsp]; rw [if_neg (by omega)]; rw [if_pos (by omega)]) (by omega)
              clear hsp
              go_wp2
              rw [HW1.out, HP1.out]
              go_quiet (fail)
              go_wp2
              go_ret
              exact ⟨by rw [HF.out]; rfl, HBx.out.trans ((HBr.out.drewN _).mono HBx.out.size)⟩
            by_cases hr1 : R ≤ r
            ·
              have HF : Hid (E = 5) := by
                unfold Hid
                rw [← HE.out]
                exact sp_bad R K ss k n 5 hlt HER.out (by rw [hsp]; rw [if_neg (by omega)]; rw [if_pos (by omega)]) (by omega)
              clear hsp
              go_wp2
              rw [HW1.out, HP1.out]
              go_quiet (fail)
              go_wp2
              go_ret
              exact ⟨by rw [HF.out]; rfl, HBx.out.trans ((HBr.out.drewN _).mono HBx.out.size)⟩
            by_cases hl0 : l < 0
            ·
              have HF : Hid (E = 5) := by
                unfold Hid
                rw [← HE.out]
                exact sp_bad R K ss k n 5 hlt HER.out (by rw [hsp]; rw [if_neg (by omega)]; rw [if_pos (by omega)]) (by omega)
              clear hsp
              go_wp2
              rw [HW1.out, HP1.out]
              go_quiet (fail)
              go_wp2
              go_ret
              exact ⟨by rw [HF.out]; rfl, HBx.out.trans ((HBr.out.drewN _).mono HBx.out.size)⟩
            by_cases hl1 : K ≤ l
            ·
              have HF : Hid (E = 5) := by
                unfold Hid
                rw [← HE.out]
                exact sp_bad R K ss k n 5 hlt HER.out (by rw [hsp]; rw [if_neg (by omega)]; rw [if_pos (by omega)]) (by omega)
              clear hsp
              go_wp2
              rw [HW1.out, HP1.out]
              go_quiet (fail)
              go_wp2
              go_ret
              exact ⟨by rw [HF.out]; rfl, HBx.out.trans ((HBr.out.drewN _).mono HBx.out.size)⟩
            have wr1 : IntKind.i64.wrap (K - l) = K - l := wr64 _ (by omega)
            by_cases hu1 : (u : Int) ≤ K - l
            · have hu2 : ¬ (K - l < (u : Int)) := by omega
              by_cases hu0 : u = 0
              · subst hu0
                have HF : Hid (E = 3) := by
                  unfold Hid
                  rw [← HE.out]
                  exact sp_bad R K ss k n 3 hlt HER.out (by rw [hsp]; rw [if_neg (by omega)]; rw [if_neg (by omega), if_pos rfl]) (by omega)
                clear hsp
                go_wp2
                rw [HW1.out, HP1.out]
                go_quiet (fail)
                go_wp2
                go_ret
                exact ⟨by rw [HF.out]; rfl, HBx.out.trans ((HBr.out.drewN _).mono HBx.out.size)⟩
              · have HNX : Hid (errTo (spE R K ss) (k + 1) = 0) := errTo_next _ k HER.out (by rw [hsp]; rw [if_neg (by omega)]; rw [if_neg (by omega), if_neg hu0])
                have hu3 : ((u : Int) == 0) = false := by simpa using hu0
                clear hsp
                go_wp2
                rw [HW1.out, HP1.out]
                go_quiet (fail)
                go_wp2
                go_roundw
                case rel => exact ⟨k + 1, by omega, by go_num, HNX, HBr.out.drewN _⟩
                case measure => simp [intOf]; omega
            · have hu2 : K - l < (u : Int) := by omega
              have HF : Hid (E = 5) := by
                unfold Hid
                rw [← HE.out]
                exact sp_bad R K ss k n 5 hlt HER.out (by rw [hsp]; rw [if_neg (by omega)]; rw [if_pos (by omega)]) (by omega)
              clear hsp
              go_wp2
              rw [HW1.out, HP1.out]
              go_quiet (fail)
              go_wp2
              go_ret
              exact ⟨by rw [HF.out]; rfl, HBx.out.trans ((HBr.out.drewN _).mono HBx.out.size)⟩
        · clear hq1
          by_cases hr0 : r < 0
          ·
            have HF : Hid (E = 5) := by
              unfold Hid
              rw [← HE.out]
              exact sp_bad R K ss k n 5 hlt HER.out (by rw [hsp]; rw [if_neg (by omega)]; rw [if_pos (by omega)]) (by omega)
            clear hsp
            go_wp2
            rw [HW1.out, HP1.out]
            go_quiet (fail)
            go_wp2
            go_ret
            exact ⟨by rw [HF.out]; rfl, HBx.out.trans ((HBr.out.drewN _).mono HBx.out.size)⟩
          by_cases hr1 : R ≤ r
          ·
            have HF : Hid (E = 5) := by
              unfold Hid
              rw [← HE.out]
              exact sp_bad R K ss k n 5 hlt HER.out (by rw [hsp]; rw [if_neg (by omega)]; rw [if_pos (by omega)]) (by omega)
            clear hsp
            go_wp2
            rw [HW1.out, HP1.out]
            go_quiet (fail)
            go_wp2
            go_ret
            exact ⟨by rw [HF.out]; rfl, HBx.out.trans ((HBr.out.drewN _).mono HBx.out.size)⟩
          by_cases hl0 : l < 0
          ·
            have HF : Hid (E = 5) := by
              unfold Hid
              rw [← HE.out]
              exact sp_bad R K ss k n 5 hlt HER.out (by rw [hsp]; rw [if_neg (by omega)]; rw [if_pos (by omega)]) (by omega)
            clear hsp
            go_wp2
            rw [HW1.out, HP1.out]
            go_quiet (fail)
            go_wp2
            go_ret
            exact ⟨by rw [HF.out]; rfl, HBx.out.trans ((HBr.out.drewN _).mono HBx.out.size)⟩
          by_cases hl1 : K ≤ l
          ·
            have HF : Hid (E = 5) := by
              unfold Hid
              rw [← HE.out]
              exact sp_bad R K ss k n 5 hlt HER.out (by rw [hsp]; rw [if_neg (by omega)]; rw [if_pos (by omega)]) (by omega)
            clear hsp
            go_wp2
            rw [HW1.out, HP1.out]
            go_quiet (fail)
            go_wp2
            go_ret
            exact ⟨by rw [HF.out]; rfl, HBx.out.trans ((HBr.out.drewN _).mono HBx.out.size)⟩
          have wr1 : IntKind.i64.wrap (K - l) = K - l := wr64 _ (by omega)
          by_cases hu1 : (u : Int) ≤ K - l
          · have hu2 : ¬ (K - l < (u : Int)) := by omega
            by_cases hu0 : u = 0
            · subst hu0
              have HF : Hid (E = 3) := by
                unfold Hid
                rw [← HE.out]
                exact sp_bad R K ss k n 3 hlt HER.out (by rw [hsp]; rw [if_neg (by omega)]; rw [if_neg (by omega), if_pos rfl]) (by omega)
              clear hsp
              go_wp2
              rw [HW1.out, HP1.out]
              go_quiet (fail)
              go_wp2
              go_ret
              exact ⟨by rw [HF.out]; rfl, HBx.out.trans ((HBr.out.drewN _).mono HBx.out.size)⟩
            · have HNX : Hid (errTo (spE R K ss) (k + 1) = 0) := errTo_next _ k HER.out (by rw [hsp]; rw [if_neg (by omega)]; rw [if_neg (by omega), if_neg hu0])
              have hu3 : ((u : Int) == 0) = false := by simpa using hu0
              clear hsp
              go_wp2
              rw [HW1.out, HP1.out]
              go_quiet (fail)
              go_wp2
              go_roundw
              case rel => exact ⟨k + 1, by omega, by go_num, HNX, HBr.out.drewN _⟩
              case measure => simp [intOf]; omega
          · have hu2 : K - l < (u : Int) := by omega
            have HF : Hid (E = 5) := by
              unfold Hid
              rw [← HE.out]
              exact sp_bad R K ss k n 5 hlt HER.out (by rw [hsp]; rw [if_neg (by omega)]; rw [if_pos (by omega)]) (by omega)
            clear hsp
            go_wp2
            rw [HW1.out, HP1.out]
            go_quiet (fail)
            go_wp2
            go_ret
            exact ⟨by rw [HF.out]; rfl, HBx.out.trans ((HBr.out.drewN _).mono HBx.out.size)⟩
      · have HF : Hid (E = 0) := by
          unfold Hid
          rw [← HE.out, show n = k by omega]
          exact her.out
        have HBr := hide hbel
        clear hbel
        go_wp2
        go_ret
        exact ⟨by rw [HF.out]; rfl, HBx.out.trans (HBr.out.mono HBx.out.size)⟩
  · rw [if_pos hs] at hE
    subst hE
    have s1 : sizeB R K = false := by unfold sizeB; simpa using hs
    clear hs
    go_enter Tryz.func31, Tryz.ntmps31
    go_wp2_with fail
    rw [HW.out]
    refine (rsize_any R K W0).mono ?_
    rintro e k1 ⟨rfl, rfl⟩
    rw [s1]
    go_wp2
    go_ret
    exact ⟨rfl, HBx.out⟩
theorem Lns.whole {w : World} {b : Nat} {ls : List (List Cel)} (h : Lns w (some ⟨b, 0, none⟩) ls) (h1 : 1 ≤ ls.length) : ∃ l, Whole w b 71 l := by
  rcases h with rfl | ⟨b', cur, e, hh, _⟩
  · simp at h1
  · cases e
    exact ⟨cur.toList, by unfold Whole; simpa using hh⟩
theorem Lns.set {w : World} {b : Nat} {ls : List (List Cel)} (h : Lns w (some ⟨b, 0, none⟩) ls) {r : Nat} (hr : r < ls.length) {x : Value} {z : List Cel} (hx : RowOk w x z) : Lns (w.setCell ⟨b, r, none⟩ x) (some ⟨b, 0, none⟩) (ls.set r z) := by
  have hs : Stays 100 w (w.setCell ⟨b, r, none⟩ x) := by
    obtain ⟨l, hw⟩ := h.whole (by omega)
    exact Stays.put hw (by decide)
  rcases h with rfl | ⟨b', cur, e, hh, hc⟩
  · simp at hr
  · cases e
    have hw : Whole w b 71 cur.toList := by unfold Whole; simpa using hh
    have hlen : ∀ i, i < ls.length → i < cur.toList.length := by
      intro i hi
      obtain ⟨y, hy, _⟩ := hc i hi
      simpa using (Array.getElem?_eq_some_iff.1 hy).1
    refine .inr ⟨b, (cur.toList.set r x).toArray, rfl, hw.put r x, fun i hi => ?_⟩
    rw [List.length_set] at hi
    rw [set_lAt _ _ _ _ hi]
    by_cases q : i = r
    · subst q
      refine ⟨x, ?_, ?_⟩
      · have hl := hlen i hi
        rw [List.getElem?_toArray, List.getElem?_set, if_pos rfl, if_pos hl]
      · rw [if_pos rfl]; exact hx.keep hs
    · obtain ⟨y, hy, hyo⟩ := hc i hi
      refine ⟨y, ?_, ?_⟩
      · rw [List.getElem?_toArray, List.getElem?_set, if_neg (Ne.symm q)]
        simpa using hy
      · rw [if_neg q]; exact hyo.keep hs
section
variable {w W : World} {G L M R C G' L' M' R' C' : Nat} {g g' : Gd}
theorem heap_put3 (w : World) (q : Nat) (x0 x1 x2 : Value) (i : Nat) (h : i ≠ q) : (((w.setCell ⟨q, 0, none⟩ x0).setCell ⟨q, 1, none⟩ x1).setCell ⟨q, 2, none⟩ x2).heap[i]? = w.heap[i]? := by
  rw [Below.heap_setCell _ _ _ _ (by simpa using h), Below.heap_setCell _ _ _ _ (by simpa using h), Below.heap_setCell _ _ _ _ (by simpa using h)]
theorem Trn.put3 (h : Trn G L M w W) {q : Nat} (hq : w.heap.size ≤ q) (x0 x1 x2 : Value) : Trn G L M w (((W.setCell ⟨q, 0, none⟩ x0).setCell ⟨q, 1, none⟩ x1).setCell ⟨q, 2, none⟩ x2) :=
  ⟨h.os, h.tape, h.output, by simpa [World.setCell] using h.size, fun i hi h1 h2 h3 => (heap_put3 _ _ _ _ _ _ (by omega)).trans (h.block i hi h1 h2 h3)⟩
end
/-- A size, brought to what is looked at here. -/
def smallI (n : Int) : Int := if 30 < n ∧ n ≤ 512 then 30 else n
end
end Go.Proofs.YtcbdokocnjoilaaGreatDoor
