/-
  Contracts: clusters, by the document.
-/
import Derived.Test.YtlbdfechhagimaaDoorClus
namespace Go.Proofs.YtlbdfechhagimaaDoor
open Go.ChangeShapes Go.WideShapes Go.ChangeAt Go.RowKit
set_option linter.unusedVariables false

set_option maxHeartbeats 2000000 in
theorem rclusters_any (A : Option Addr) (n c : Nat) (zs : List Int) (w : World) (h : Ints .i64 w A zs) (hl : zs.length = n) (hn : n ≤ 1000) :
    Calls Tryd.prog 17 #[.slice A n c] w fun e w' => ∃ v, e = .returned v ∧ Rws 29 3 .i64 w.heap.size w w' v (clus zs) := by
  have HL := hide hl
  clear hl
  go_enter Tryd.func17, Tryd.ntmps17
  go_wp2
  go_loopg [3, 4] n (fun g v i wr => ∃ (j : Nat) (acc : List (List Int)), j + g = n ∧ i = .int .i64 j ∧ Hid (acc ++ clus (zs.drop j) = clus zs) ∧ Hid (acc.length ≤ j) ∧ Hid (Rws 29 3 .i64 w.heap.size w wr v acc))
  case atStart => exact ⟨0, [], by omega, rfl, rfl, Nat.zero_le _, Rws.start (Nat.le_refl _)⟩
  case round =>
    obtain ⟨i, acc, hig, rfl, HC, HA, HR⟩ := hrel
    cases gk with
    | zero =>
      have E : Hid (acc = clus zs) := by have := HC.out; rw [List.drop_eq_nil_of_le (by rw [HL.out]; omega)] at this; unfold Hid; rw [← this]; simp [clus]
      have hge : (n : Int) ≤ (i : Int) := by omega
      go_wp2
      go_ret
      exact ⟨_, rfl, by rw [← E.out]; exact HR.out⟩
    | succ g =>
      have hlt : i < n := by omega
      obtain ⟨b, off, rfl, hcell, hb⟩ := h.at (i := i) (by rw [HL.out]; exact hlt)
      obtain ⟨r, hr⟩ : ∃ r, zs.getD i 0 = r := ⟨_, rfl⟩
      have hcx : wr.cell? ⟨b, off + i, none⟩ = some (.int .i64 r) := by rw [← hr]; exact (HR.out.bel.cell (by exact hb)).trans hcell
      have HRr := hide hr
      clear hr hcell
      obtain ⟨P1, hP⟩ : ∃ P1, wOf r = P1 := ⟨_, rfl⟩
      have HP := hide hP
      by_cases h0 : P1 < 1
      · have HC2 : Hid (acc ++ clus (zs.drop (i + 1)) = clus zs) := by unfold Hid; rw [← clus_skip zs i r (by rw [HL.out]; exact hlt) HRr.out (by rw [hP]; exact h0)]; exact HC.out
        clear hP
        go_wp2_with fail
        refine (rof_any r wr).mono ?_
        rintro e w1 ⟨rfl, hb1⟩
        rw [HP.out]
        have HR1 := hide (HR.out.later hb1)
        go_wp2
        go_roundg g
        case measure => omega
        case rel => exact ⟨i + 1, acc, by omega, by go_num, HC2.out, Nat.le_succ_of_le HA.out, HR1.out⟩
      · have HT := hide (clus_take zs i r (by rw [HL.out]; exact hlt) HRr.out (by rw [hP]; exact h0))
        clear hP
        go_wp2_with fail
        refine (rof_any r wr).mono ?_
        rintro e w1 ⟨rfl, hb1⟩
        rw [HP.out]
        have HR1 := hide (HR.out.later hb1)
        have hcx1 : w1.cell? ⟨b, off + i, none⟩ = some (.int .i64 r) := (hb1.cell (block_lt_of_cell hcx)).trans hcx
        clear HR hb1 hcx
        have HO : Hid (Own 3 .i64 w1.heap.size w1 (w1.alloc (.cells #[.int .i64 r] 3)) (.slice (some ⟨w1.heap.size, 0, none⟩) 1 1) [r]) := Own.lit w1 3 .i64 [r] 1 rfl (by omega)
        go_wp2
        go_loopg [5, 6] (n - (i + 1)) (fun g2 x s wy => ∃ (q : Nat) (cs : List Int), q + g2 = n ∧ i < q ∧ s = .int .i64 q ∧ Hid (r :: (zs.drop (i + 1)).takeWhile mk = cs ++ (zs.drop q).takeWhile mk) ∧ Hid (cs.length ≤ 1000 ∧ cs.length + i ≤ q) ∧ Hid (Own 3 .i64 w1.heap.size w1 wy x cs))
        case atStart => exact ⟨i + 1, [r], by omega, by omega, by go_num, by unfold Hid; simp, by unfold Hid; simp; omega, HO.out⟩
        case round =>
          obtain ⟨q, cs, hqg, hiq, rfl, HW, HQ, HO2⟩ := hrel
          cases gk with
          | zero =>
            have hge : (n : Int) ≤ (q : Int) := by omega
            have E : Hid ((acc ++ [cs]) ++ clus (zs.drop (i + 1)) = clus zs) := by
              unfold Hid
              have := HW.out
              rw [tw_end zs q (by rw [HL.out]; omega), List.append_nil] at this
              rw [← HC.out, HT.out, this]; simp
            obtain ⟨Ax, cx, rfl, -⟩ := HO2.out.form2
            have hcl := HO2.out.cl.less HR1.out.le
            have hrw := HR1.out.later HO2.out.bel
            have hal : acc.length ≤ 1000000 := by have := HA.out; omega
            go_wp2_with (at_builtin; refine wpList_pushR elem34 (by decide) rfl _ _ rfl rfl rfl hrw hcl hal ?_; intro v' w4 hown4)
            go_roundg g
            case measure => omega
            case rel => exact ⟨i + 1, _, by omega, by go_num, E.out, by have := HA.out; unfold Hid; simp; omega, hown4⟩
          | succ g2 =>
            have hqn : q < n := by omega
            have hqn' : (q : Int) < (n : Int) := by omega
            obtain ⟨b3, off3, e3, hc3, hb3⟩ := h.at (i := q) (by rw [HL.out]; omega)
            cases e3
            obtain ⟨m1, hm1⟩ : ∃ m1, zs.getD q 0 = m1 := ⟨_, rfl⟩
            have hc4 : wr.cell? ⟨b, off + q, none⟩ = some (.int .i64 m1) := by
              rw [← hm1]
              exact ((HR1.out.bel.trans (HO2.out.bel.mono HR1.out.le)).cell (by exact hb3)).trans hc3
            have HM1 := hide hm1
            clear hc3 hm1
            obtain ⟨P2, hP2⟩ : ∃ P2, wOf m1 = P2 := ⟨_, rfl⟩
            have HP2 := hide hP2
            by_cases hmk : mk m1 = true
            · have hz : (P2 == 0) = true := by rw [← hP2]; exact hmk
              have HW2 : Hid (r :: (zs.drop (i + 1)).takeWhile mk = (cs ++ [m1]) ++ (zs.drop (q + 1)).takeWhile mk) := by
                unfold Hid
                rw [HW.out, tw_step zs q m1 (by rw [HL.out]; omega) HM1.out hmk]
                simp
              clear hmk hP2
              go_wp2_with fail
              refine (rof_any m1 wr).mono ?_
              rintro e w2 ⟨rfl, hb2⟩
              rw [HP2.out]
              have hc5 : w2.cell? ⟨b, off + q, none⟩ = some (.int .i64 m1) := (hb2.cell (block_lt_of_cell hc4)).trans hc4
              have hown1 := HO2.out.later hb2
              clear hb2 hc4
              have hal : cs.length ≤ 1000000 := by have := HQ.out.1; omega
              go_wp2_with (at_builtin; refine wpList_push elem29 rfl _ _ rfl rfl rfl hown1 hal (by omega) ?_; intro v' w3 hown3)
              go_roundg g2
              case measure => omega
              case rel => exact ⟨q + 1, _, by omega, by omega, by go_num, HW2.out, by have := HQ.out; unfold Hid; simp; omega, hown3⟩
            · have hz : (P2 == 0) = false := by rw [← hP2]; simpa [mk] using hmk
              have E : Hid ((acc ++ [cs]) ++ clus (zs.drop (i + 1)) = clus zs) := by
                unfold Hid
                have := HW.out
                rw [tw_stop zs q m1 (by rw [HL.out]; omega) HM1.out (by simpa using hmk), List.append_nil] at this
                rw [← HC.out, HT.out, this]; simp
              obtain ⟨Ax, cx, rfl, -⟩ := HO2.out.form2
              clear hmk hP2
              go_wp2_with fail
              refine (rof_any m1 wr).mono ?_
              rintro e w2 ⟨rfl, hb2⟩
              rw [HP2.out]
              have hcl := (HO2.out.later hb2).cl.less HR1.out.le
              have hrw := HR1.out.later (HO2.out.later hb2).bel
              have hal : acc.length ≤ 1000000 := by have := HA.out; omega
              clear hb2 hc4
              go_wp2_with (at_builtin; refine wpList_pushR elem34 (by decide) rfl _ _ rfl rfl rfl hrw hcl hal ?_; intro v' w4 hown4)
              go_roundg g
              case measure => omega
              case rel => exact ⟨i + 1, _, by omega, by go_num, E.out, by have := HA.out; unfold Hid; simp; omega, hown4⟩
end Go.Proofs.YtlbdfechhagimaaDoor
