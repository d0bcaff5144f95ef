/-
  The walk of the law DiffOf.
-/
import Derived.Test.YtoddfaoifnkhlaaGreatDoorDWalkB
import Derived.Test.YtoddfaoifnkhlaaGreatDoorDMade
import Derived.Test.YtoddfaoifnkhlaaGreatDoorDKnown
import Derived.Test.YtoddfaoifnkhlaaGreatDoorDApply
import Derived.Test.YtoddfaoifnkhlaaGreatDoorDRef2
import Derived.Test.YtoddfaoifnkhlaaGreatDoorDROf
import Derived.Test.YtoddfaoifnkhlaaGreatDoorDCheck
import Derived.Test.YtoddfaoifnkhlaaGreatDoorB14
import Derived.Deep.DeepCutAuto
import Derived.Deep.CutRange
namespace Go.Proofs.YtoddfaoifnkhlaaGreatDoor
set_option maxRecDepth 100000
open Go.ChangeShapes Go.WideShapes Go.ChangeAt Go.RowKit
set_option linter.unusedVariables false

set_option maxHeartbeats 4000000 in
theorem diffOf_walk (a0 a1 a2 a3 : Int) (A4 : Option Addr) (len4 cap4 : Nat) (A5 : Option Addr) (len5 cap5 : Nat) (w : World) (h0 : (Lit.int .i64 a0).wf = true) (h1 : (Lit.int .i64 a1).wf = true) (h2 : (Lit.int .i64 a2).wf = true) (h3 : (Lit.int .i64 a3).wf = true) (h4 : Acts w A4 len4) (h5 : Acts w A5 len5) (hS : Spans w) :
    Calls Tryz.prog 3 #[.int .i64 a0, .int .i64 a1, .int .i64 a2, .int .i64 a3, .slice A4 len4 cap4, .slice A5 len5 cap5] w fun e w' => e = .returned (.bool true) ∧ Below w.heap.size w w' := by
  have fS := fieldS
  have HS := hide hS
  have H4 := hide h4
  have H5 := hide h5
  clear hS h0 h1 h2 h3 h4 h5
  go_enter Tryz.func3, Tryz.ntmps3
  go_wp2_with fail
  refine (dmade_any a0 a1 A4 len4 cap4 w H4.out HS.out).mono ?_
  rintro e k1 hm1
  rcases hm1 with ⟨g, R1, C1, G1, L1, M1, A1, cap1, rfl, ⟨hg, hb, n1, n2, n3⟩, hl, hok⟩ | ⟨rfl, hb⟩
  · obtain ⟨P1, hP1⟩ : ∃ P1, k1.heap.size = P1 := ⟨_, rfl⟩
    obtain ⟨W1, hW1⟩ : ∃ W1, k1.alloc (.cells #[.slice A1 R1 cap1, .int .i64 (g.row : Int), .int .i64 (g.col : Int)] 26) = W1 := ⟨_, rfl⟩
    have hb1 : Below k1.heap.size k1 W1 := by rw [← hW1]; exact new1W _ _
    have HP1a : Hid (Whole W1 P1 26 [.slice A1 R1 cap1, .int .i64 (g.row : Int), .int .i64 (g.col : Int)]) := by unfold Hid; rw [← hW1, ← hP1]; exact Whole.new k1 26 [.slice A1 R1 cap1, .int .i64 (g.row : Int), .int .i64 (g.col : Int)]
    have HG1 := hide (hg.later hb1)
    have HL1a := hide (hl.below hb1)
    have HOG := hide hok
    have HB1 := hide (hb.trans (hb1.mono hb.size))
    have HW1 := hide hW1
    have HP1q := hide hP1
    clear hg hb n1 n2 n3 hl hok hP1 hW1 hb1
    go_wp2_with fail
    rw [HW1.out]
    refine (dmade_any a2 a3 A5 len5 cap5 W1 (H5.out.below HB1.out) (HS.out.below HB1.out)).mono ?_
    rintro e k2 hm2
    rcases hm2 with ⟨h, R2, C2, G2, L2, M2, A2, cap2, rfl, ⟨hg, hb, n1, n2, n3⟩, hl, hok⟩ | ⟨rfl, hb⟩
    · obtain ⟨P2, hP2⟩ : ∃ P2, k2.heap.size = P2 := ⟨_, rfl⟩
      obtain ⟨W2, hW2⟩ : ∃ W2, k2.alloc (.cells #[.slice A2 R2 cap2, .int .i64 (h.row : Int), .int .i64 (h.col : Int)] 26) = W2 := ⟨_, rfl⟩
      have hb2 : Below k2.heap.size k2 W2 := by rw [← hW2]; exact new1W _ _
      have hb12 : Below W1.heap.size W1 W2 := hb.trans (hb2.mono hb.size)
      have HP2a : Hid (Whole W2 P2 26 [.slice A2 R2 cap2, .int .i64 (h.row : Int), .int .i64 (h.col : Int)]) := by unfold Hid; rw [← hW2, ← hP2]; exact Whole.new k2 26 [.slice A2 R2 cap2, .int .i64 (h.row : Int), .int .i64 (h.col : Int)]
      have HG2 := hide (hg.later hb2)
      have HL2a := hide (hl.below hb2)
      have HOH := hide hok
      have HP1b := hide (HP1a.out.later hb12)
      have HG1b := hide (HG1.out.later hb12)
      have HL1b := hide (HL1a.out.below hb12)
      have HB2 := hide (HB1.out.trans (hb12.mono HB1.out.size))
      have HW2 := hide hW2
      have HP2q := hide hP2
      have hr1 := HOG.out.r2
      have hc1 := HOG.out.c2
      have hr2 := hok.r2
      have hc2 := hok.c2
      have hck := (apply_of HOG.out hok).1
      have hap := (apply_of HOG.out hok).2.2
      have hkk := ofD_ok HOG.out hok
      have hea := ofD_each HOG.out hok
      have hle := ofD_len HOG.out hok
      have hself := of_self hok
      have hrw : (ofD g h R2 C2).rows = (R2 : Int) ∧ (ofD g h R2 C2).cols = (C2 : Int) := ⟨rfl, rfl⟩
      clear hg hb n1 n2 n3 hl hP2 hW2 hb2 hb12 hok
      obtain ⟨d, hd⟩ : ∃ d, ofD g h R2 C2 = d := ⟨_, rfl⟩
      rw [hd] at hck hap hkk hea hle hrw
      have HDD := hide hd
      have HCK := hide hck
      have HAP := hide hap
      have HKK := hide hkk
      have HRW := hide hrw
      have HSELF := hide hself
      have HBD : Hid (∀ s ∈ d.ss, s.cs.length ≤ 1000000) := fun s hs => Nat.le_trans (hea s hs).2 (by decide)
      have HLB : Hid (∀ s ∈ d.ss, LB s.cs) := fun s hs => (hea s hs).1
      obtain ⟨n3, hn3⟩ : ∃ n3, d.ss.length = n3 := ⟨_, rfl⟩
      rw [hn3] at hle
      have HN3 := hide hn3
      have HN6 : Hid (n3 ≤ 1000000) := Nat.le_trans hle (by decide)
      have hn36 : n3 ≤ 512 := hle
      clear hd hck hap hkk hea hle hself hn3 hrw
      go_wp2_with fail
      rw [HW2.out]
      refine (dfof_any HG1b.out HOG.out HG2.out HOH.out).mono ?_
      rw [HDD.out]
      rintro e k3 ⟨A3, c3, rfl, hd3, hb3⟩
      rw [HN3.out]
      obtain ⟨P3, hP3⟩ : ∃ P3, k3.heap.size = P3 := ⟨_, rfl⟩
      obtain ⟨W3, hW3⟩ : ∃ W3, k3.alloc (.cells #[.int .i64 d.rows, .int .i64 d.cols, .int .i64 d.row, .int .i64 d.col, .slice A3 n3 c3] 33) = W3 := ⟨_, rfl⟩
      have hb4 : Below k3.heap.size k3 W3 := by rw [← hW3]; exact new1W _ _
      have hb23 : Below W2.heap.size W2 W3 := hb3.trans (hb4.mono hb3.size)
      have HP3 : Hid (Whole W3 P3 33 [.int .i64 d.rows, .int .i64 d.cols, .int .i64 d.row, .int .i64 d.col, .slice A3 n3 c3]) := by unfold Hid; rw [← hW3, ← hP3]; exact Whole.new k3 33 [.int .i64 d.rows, .int .i64 d.cols, .int .i64 d.row, .int .i64 d.col, .slice A3 n3 c3]
      have HD3 := hide (hd3.below hb4)
      have HP1 := hide (HP1b.out.later hb23)
      have HP2 := hide (HP2a.out.later hb23)
      have HL1 := hide (HL1b.out.below hb23)
      have HL2 := hide (HL2a.out.below hb23)
      have HGG := hide (HG1b.out.later hb23)
      have HHH := hide (HG2.out.later hb23)
      have HB3 := hide (HB2.out.trans (hb23.mono HB2.out.size))
      have HW3 := hide hW3
      have HP3q := hide hP3
      clear hd3 hb3 hP3 hW3 hb4 hb23
      go_upto_region 6 with fail
      rw [HP1q.out, HP2q.out, HW3.out, HP3q.out]
      refine rgH (fun w' => Below W3.heap.size W3 w') [(true, 0), (true, 2), (true, 3), (false, 1), (false, 4), (false, 5), (false, 6), (false, 7), (false, 8), (false, 9), (false, 10), (false, 11)] ((Below.refl _ _).drewN 1) ?_
      refine stH (hy := fun w hS => by obtain ⟨f0, f1, f2, f3, f4, -⟩ := cells5 (HP3.out.later hS); go_simp <;> with_reducible rfl) (h := ?_)
      refine stH (hy := fun w hS => by obtain ⟨f0, f1, f2, -⟩ := cells3 (HP1.out.later hS); go_simp <;> with_reducible rfl) (h := ?_)
      refine stH (hy := fun w hS => by obtain ⟨f0, f1, f2, -⟩ := cells3 (HP2.out.later hS); go_simp <;> with_reducible rfl) (h := ?_)
      refine alH fun K hK => ?_
      go_wp2_with fail
      refine (ldof_any W2.heap.size 47 65 d A3 n3 c3 W3.drew (HD3.out.sps.below ((Below.refl _ _).drewN 1) HD3.out.cle) HN3.out HN6.out HBD.out HLB.out).mono ?_
      rintro e k4 ⟨A4, c4, rfl, hd4, hb4⟩
      have B4 : Below W3.heap.size W3 k4 := ((Below.refl W3.heap.size W3).drewN 1).trans hb4
      have HD4 := hide hd4
      rw [HN3.out]
      clear hd4 hb4
      go_wp2
      refine hK.out _ _ (B4) ?_
      clear hK K
      refine alH fun K hK => ?_
      go_wp2_with fail
      refine (rdof_any A1 A2 R1 C1 R2 C2 cap1 cap2 (HL1.out.below B4) HOG.out (HL2.out.below B4) HOH.out).mono ?_
      rintro e k5 h5
      rw [HDD.out] at h5
      obtain ⟨A5, c5, rfl, hd5, hb5⟩ := h5
      have B5 : Below W3.heap.size W3 k5 := B4.trans (hb5.mono B4.size)
      have HD5 := hide hd5
      have HD4b := hide (HD4.out.below hb5)
      rw [HN3.out]
      clear hd5 hb5
      go_wp2
      refine hK.out _ _ (B5) ?_
      clear hK K
      refine alH fun K hK => ?_
      go_wp2_with fail
      refine (rdsame_any _ _ _ _ _ _ d d A4 A5 n3 n3 c4 c5 k5 HD4b.out.sps HD5.out.sps HD4b.out.cle HD5.out.cle HN3.out HN3.out HN6.out HBD.out).mono ?_
      rintro e k6 ⟨rfl, hb6⟩
      rw [dec_self d]
      have B6 : Below W3.heap.size W3 k6 := B5.trans (hb6.mono B5.size)
      clear hb6
      go_wp2
      refine hK.out _ _ (B6) ?_
      clear hK K
      refine alH fun K hK => ?_
      go_wp2
      refine hK.out _ _ (B6) ?_
      clear hK K
      refine alH fun K hK => ?_
      go_wp2
      refine hK.out _ _ (B6) ?_
      clear hK K
      obtain ⟨f0, f1, f2, f3, f4, lf⟩ := cells5 (HP3.out.later B6)
      refine alH fun K hK => ?_
      go_wp2
      refine hK.out _ _ (B6) ?_
      clear hK K
      clear f0 f1 f2 f3 f4 lf
      refine alH fun K hK => ?_
      go_wp2_with fail
      refine (dfcheck_any W2.heap.size 47 65 d A3 n3 c3 k6 (HD3.out.below B6).sps (HD3.out.below B6).cle HN3.out HN6.out).mono ?_
      rintro e k7 ⟨rfl, hb7⟩
      rw [HCK.out]
      have B7 : Below W3.heap.size W3 k7 := B6.trans (hb7.mono B6.size)
      clear hb7
      go_wp2
      refine hK.out _ _ (B7) ?_
      clear hK K
      refine alH fun K hK => ?_
      go_wp2
      refine hK.out _ _ (B7) ?_
      clear hK K
      refine alH fun K hK => ?_
      go_wp2
      refine hK.out _ _ (B7) ?_
      clear hK K
      refine chainH_nil ?_
      have HB7 := hide B7
      clear B4 B5 B6 B7
      have HBw7 := hide (HB3.out.trans (HB7.out.mono HB3.out.size))
      obtain ⟨f0, f1, f2, f3, f4, lf⟩ := cells5 (HP3.out.later HB7.out)
      go_wp2_with fail
      refine (dfapply_any (HGG.out.later HB7.out) HOG.out (HS.out.below HBw7.out) W2.heap.size 47 65 d A3 n3 c3 (HD3.out.below HB7.out).sps (HD3.out.below HB7.out).cle HN3.out HN6.out HLB.out HCK.out).mono ?_
      rw [HRW.out.1, HRW.out.2, Int.toNat_natCast, Int.toNat_natCast, HKK.out, HAP.out]
      rintro e k8 h8
      unfold Applied at h8
      rw [if_pos rfl] at h8
      obtain ⟨G8, L8, M8, rfl, hg8, hb8, -⟩ := h8
      have HG8 := hide hg8
      have HB8 := hide (HB7.out.trans (hb8.mono HB7.out.size))
      clear hg8 hb8 f0 f1 f2 f3 f4 lf
      go_wp2
      go_loopw [20, 21] (fun s i wr => ∃ k : Nat, k ≤ n3 ∧ i = .int .i64 k ∧ s = .int .i64 (cellsTo d.ss k : Int) ∧ wr = k8) (fun _ i _ => n3 - (intOf i).toNat)
      case atStart => exact ⟨0, Nat.zero_le _, rfl, rfl, rfl⟩
      case round =>
        obtain ⟨k, hk, rfl, rfl, hwr⟩ := hrel
        subst hwr
        obtain ⟨f0, f1, f2, f3, f4, lf⟩ := cells5 (HP3.out.later HB8.out)
        by_cases hlt : k < n3
        · have hkl : k < d.ss.length := by rw [HN3.out]; exact hlt
          obtain ⟨b, off, A9, c9, rfl, lb, x0, x1, x2, -⟩ := (HD3.out.below HB8.out).sps.at (i := k) hkl
          have hlu : (sAt d.ss k).cs.length ≤ 1000000 := HBD.out _ (mem_sAt d.ss k hkl)
          have hsl := cellsTo_le d.ss 1000000 HBD.out k (Nat.le_of_lt hkl)
          have hnx := cellsTo_next d.ss k hkl
          obtain ⟨u, hu⟩ : ∃ u, (sAt d.ss k).cs.length = u := ⟨_, rfl⟩
          obtain ⟨s, hs⟩ : ∃ s, cellsTo d.ss k = s := ⟨_, rfl⟩
          rw [hu] at hlu x2 hnx
          rw [hs] at hsl hnx
          rw [hs]
          have hsl2 : s ≤ 512000000 := Nat.le_trans hsl (Nat.mul_le_mul_right 1000000 (Nat.le_trans hk hn36))
          have HNX : Hid ((cellsTo d.ss (k + 1) : Int) = (s : Int) + (u : Int)) := by unfold Hid; rw [hnx]; simp
          clear hu hs hsl hnx x0 x1
          go_wp2
          go_roundw
          case rel => exact ⟨k + 1, hlt, by go_num, by rw [HNX.out], by trivial⟩
          case measure => simp [intOf]; exact arM hlt
        · have hkn := arD hk hlt
          subst hkn
          have HSUM : Hid (cellsTo d.ss k = cellsD d) := by unfold Hid; rw [← HN3.out, cellsTo_all]
          rw [HSUM.out]
          have HBw8 := hide (HB3.out.trans (HB8.out.mono HB3.out.size))
          go_wp2_with fail
          refine (dknown_any wr (HS.out.below HBw8.out)).mono ?_
          rintro e v1 ⟨rfl, hb1⟩
          have HV1 := hide (HB8.out.trans (hb1.mono HB8.out.size))
          have HX1 := hide (HG8.out.later hb1)
          clear hb1
          go_wp2_with fail
          refine (gsame_any HX1.out (HHH.out.later HV1.out) hr2 hr2 hc2).mono ?_
          rw [sameG_self]
          rintro e v2 ⟨rfl, hb2⟩
          have HV2 := hide (HV1.out.trans (hb2.mono HV1.out.size))
          clear hb2 f0 f1 f2 f3 f4 lf
          obtain ⟨f0, f1, f2, lf⟩ := cells3 (HP1.out.later HV2.out)
          go_wp2_with fail
          refine (lgsame_yes (HGG.out.later HV2.out) HOG.out A1 cap1 (HL1.out.below HV2.out)).mono ?_
          rintro e v3 ⟨rfl, hb3⟩
          have HV3 := hide (HV2.out.trans (hb3.mono HV2.out.size))
          clear hb3 f0 f1 f2 lf
          obtain ⟨f0, f1, f2, f3, f4, lf⟩ := cells5 (HP3.out.later HV3.out)
          go_wp2_with fail
          refine (dfcells_any W2.heap.size 47 65 d A3 k c3 v3 (HD3.out.below HV3.out).sps (HD3.out.below HV3.out).cle HN3.out HN6.out HBD.out).mono ?_
          rintro e v4 ⟨rfl, hb4⟩
          have HV4 := hide (HV3.out.trans (hb4.mono HV3.out.size))
          clear hb4 f0 f1 f2 f3 f4 lf
          go_wp2_with fail
          refine (dfof_any (HHH.out.later HV4.out) HOH.out (HHH.out.later HV4.out) HOH.out).mono ?_
          rintro e v5 ⟨A7, c7, rfl, -, hb5⟩
          rw [HSELF.out]
          have HV5 := hide (HB3.out.trans ((HV4.out.trans (hb5.mono HV4.out.size)).mono HB3.out.size))
          clear hb5
          go_wp2
          go_ret
          exact ⟨rfl, HV5.out⟩
    · have HB2 := hide (HB1.out.trans (hb.mono HB1.out.size))
      have HB3 : Hid (Below w.heap.size w (k2.alloc (.cells #[.slice none 0 0, .int .i64 0, .int .i64 0] 26))) := HB2.out.alloc HB2.out.size _
      obtain ⟨W2, hW2⟩ : ∃ W2, k2.alloc (.cells #[.slice none 0 0, .int .i64 0, .int .i64 0] 26) = W2 := ⟨_, rfl⟩
      rw [hW2] at HB3
      have HW2 := hide hW2
      clear hb hW2
      go_upto_region 4 with fail
      rw [HW2.out]
      go_wp2_with fail
      refine (dknown_any _ (HS.out.below HB3.out)).mono ?_
      rintro e v1 ⟨rfl, hb1⟩
      have HV1 := hide (HB3.out.trans (hb1.mono HB3.out.size))
      clear hb1
      go_wp2_with fail
      refine (dfof_nil2 G1 v1).mono ?_
      rintro e v2 ⟨rfl, hb2⟩
      have HV2 := hide (HV1.out.trans (hb2.mono HV1.out.size))
      clear hb2
      go_wp2_with fail
      refine (dfsame_any 0 0 47 65 47 65 ⟨0, 0, 0, 0, []⟩ ⟨0, 0, 0, 0, []⟩ none none 0 0 0 0 v2 .nil .nil (Nat.zero_le _) (Nat.zero_le _) rfl rfl (Nat.zero_le _) (by intro s hs; cases hs)).mono ?_
      rw [dec_self]
      rintro e v3 ⟨rfl, hb3⟩
      have HV3 := hide (HV2.out.trans (hb3.mono HV2.out.size))
      clear hb3
      go_wp2
      go_ret
      exact ⟨rfl, HV3.out⟩
  · obtain ⟨W1, hW1⟩ : ∃ W1, k1.alloc (.cells #[.slice none 0 0, .int .i64 0, .int .i64 0] 26) = W1 := ⟨_, rfl⟩
    have HB1 : Hid (Below w.heap.size w W1) := by unfold Hid; rw [← hW1]; exact hb.alloc hb.size _
    have HW1 := hide hW1
    clear hb hW1
    go_wp2_with fail
    rw [HW1.out]
    refine (dmade_any a2 a3 A5 len5 cap5 W1 (H5.out.below HB1.out) (HS.out.below HB1.out)).mono ?_
    rintro e k2 hm2
    rcases hm2 with ⟨h, R2, C2, G2, L2, M2, A2, cap2, rfl, ⟨-, hb, -⟩, -⟩ | ⟨rfl, hb⟩
    · obtain ⟨W2, hW2⟩ : ∃ W2, k2.alloc (.cells #[.slice A2 R2 cap2, .int .i64 (h.row : Int), .int .i64 (h.col : Int)] 26) = W2 := ⟨_, rfl⟩
      have HB3 : Hid (Below w.heap.size w W2) := by unfold Hid; rw [← hW2]; exact (HB1.out.trans (hb.mono HB1.out.size)).alloc (Nat.le_trans HB1.out.size hb.size) _
      have HW2 := hide hW2
      clear hb hW2
      go_upto_region 4 with fail
      rw [HW2.out]
      go_wp2_with fail
      refine (dknown_any _ (HS.out.below HB3.out)).mono ?_
      rintro e v1 ⟨rfl, hb1⟩
      have HV1 := hide (HB3.out.trans (hb1.mono HB3.out.size))
      clear hb1
      go_wp2_with fail
      refine (dfof_nil1 (some ⟨G2, 0, none⟩) v1).mono ?_
      rintro e v2 ⟨rfl, hb2⟩
      have HV2 := hide (HV1.out.trans (hb2.mono HV1.out.size))
      clear hb2
      go_wp2_with fail
      refine (dfsame_any 0 0 47 65 47 65 ⟨0, 0, 0, 0, []⟩ ⟨0, 0, 0, 0, []⟩ none none 0 0 0 0 v2 .nil .nil (Nat.zero_le _) (Nat.zero_le _) rfl rfl (Nat.zero_le _) (by intro s hs; cases hs)).mono ?_
      rw [dec_self]
      rintro e v3 ⟨rfl, hb3⟩
      have HV3 := hide (HV2.out.trans (hb3.mono HV2.out.size))
      clear hb3
      go_wp2
      go_ret
      exact ⟨rfl, HV3.out⟩
    · obtain ⟨W2, hW2⟩ : ∃ W2, k2.alloc (.cells #[.slice none 0 0, .int .i64 0, .int .i64 0] 26) = W2 := ⟨_, rfl⟩
      have HB3 : Hid (Below w.heap.size w W2) := by unfold Hid; rw [← hW2]; exact (HB1.out.trans (hb.mono HB1.out.size)).alloc (Nat.le_trans HB1.out.size hb.size) _
      have HW2 := hide hW2
      clear hb hW2
      go_upto_region 4 with fail
      rw [HW2.out]
      go_wp2_with fail
      refine (dknown_any _ (HS.out.below HB3.out)).mono ?_
      rintro e v1 ⟨rfl, hb1⟩
      have HV1 := hide (HB3.out.trans (hb1.mono HB3.out.size))
      clear hb1
      go_wp2_with fail
      refine (dfof_nil1 none v1).mono ?_
      rintro e v2 ⟨rfl, hb2⟩
      have HV2 := hide (HV1.out.trans (hb2.mono HV1.out.size))
      clear hb2
      go_wp2_with fail
      refine (dfsame_any 0 0 47 65 47 65 ⟨0, 0, 0, 0, []⟩ ⟨0, 0, 0, 0, []⟩ none none 0 0 0 0 v2 .nil .nil (Nat.zero_le _) (Nat.zero_le _) rfl rfl (Nat.zero_le _) (by intro s hs; cases hs)).mono ?_
      rw [dec_self]
      rintro e v3 ⟨rfl, hb3⟩
      have HV3 := hide (HV2.out.trans (hb3.mono HV2.out.size))
      clear hb3
      go_wp2
      go_ret
      exact ⟨rfl, HV3.out⟩
end Go.Proofs.YtoddfaoifnkhlaaGreatDoor
