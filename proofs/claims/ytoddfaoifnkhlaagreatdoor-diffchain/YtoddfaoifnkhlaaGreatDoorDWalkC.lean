/-
  The walk of the law DiffChain.
-/
import Derived.Test.YtoddfaoifnkhlaaGreatDoorDWalkB
import Derived.Test.YtoddfaoifnkhlaaGreatDoorDWalkA
import Derived.Test.YtoddfaoifnkhlaaGreatDoorDMade
import Derived.Test.YtoddfaoifnkhlaaGreatDoorDKnown
import Derived.Test.YtoddfaoifnkhlaaGreatDoorDApply
import Derived.Deep.DeepCutAuto
import Derived.Deep.CutRange
namespace Go.Proofs.YtoddfaoifnkhlaaGreatDoor
set_option maxRecDepth 100000
open Go.ChangeShapes Go.WideShapes Go.ChangeAt Go.RowKit
set_option linter.unusedVariables false

set_option maxHeartbeats 4000000 in
theorem diffChain_walk (a0 a1 : Int) (A0 : Option Addr) (len cap0 : Nat) (w : World) (h0 : (Lit.int .i64 a0).wf = true) (h1 : (Lit.int .i64 a1).wf = true) (ha : Acts w A0 len) (hS : Spans w) :
    Calls Tryz.prog 5 #[.int .i64 a0, .int .i64 a1, .slice A0 len cap0] w fun e w' => e = .returned (.bool true) ∧ Below w.heap.size w w' := by
  have HA := hide ha
  have HS := hide hS
  have hpos := hS.size
  have HPOS := hide hpos
  clear ha hS h0 h1 hpos
  go_enter Tryz.func5, Tryz.ntmps5
  go_wp2_with fail
  refine (dmade_any a0 a1 none 0 0 w (.inl rfl) HS.out).mono ?_
  rintro e k1 hm1
  rcases hm1 with ⟨g0, R1, C1, G1, L1, M1, A1, cap1, rfl, ⟨hg, hb, n1, n2, n3⟩, hl, hok⟩ | ⟨rfl, hb⟩
  · obtain ⟨P1, hP1⟩ : ∃ P1, k1.heap.size = P1 := ⟨_, rfl⟩
    obtain ⟨W1, hW1⟩ : ∃ W1, k1.alloc (.cells #[.slice A1 R1 cap1, .int .i64 (g0.row : Int), .int .i64 (g0.col : Int)] 26) = W1 := ⟨_, rfl⟩
    have hb1 : Below k1.heap.size k1 W1 := by rw [← hW1]; exact new1W _ _
    have hP1a : Whole W1 P1 26 [.slice A1 R1 cap1, .int .i64 (g0.row : Int), .int .i64 (g0.col : Int)] := by rw [← hW1, ← hP1]; exact Whole.new k1 26 [.slice A1 R1 cap1, .int .i64 (g0.row : Int), .int .i64 (g0.col : Int)]
    have HB1 := hide (hb.trans (hb1.mono hb.size))
    have hPw : w.heap.size ≤ P1 := by rw [← hP1]; exact hb.size
    have HO1 : Hid (One w W1 G1 L1 M1 R1 C1 g0 P1 A1 cap1) := ⟨⟨hg.later hb1, hok, hP1a, hl.below hb1, n1, n2, n3, hPw⟩, HS.out.below HB1.out, HB1.out, HPOS.out⟩
    have HW1 := hide hW1
    have HP1q := hide hP1
    have r1 := hok.r1
    have r2 := hok.r2
    have c1 := hok.c1
    have c2 := hok.c2
    clear hg hb n1 n2 n3 hl hP1 hW1 hb1 hP1a hPw hok
    go_wp2_with fail
    rw [HW1.out, HP1q.out]
    refine (copy_any HO1.out.p.grd r1 r2 c1 c2).mono ?_
    rintro e k2 ⟨Gx, Lx, Mx, rfl, hg, hb, n1, n2, n3⟩
    have HO2 := hide (HO1.out.later hb)
    have HX2 := hide hg
    have HNE2 := hide (aside_new HO1.out.p.grd n1 n2 n3)
    clear hg hb n1 n2 n3
    go_wp2
    go_loopw [7, 9, 10] (fun gp xp i wr => ∃ (k : Nat) (g : Gd) (R C G L M : Nat) (A : Option Addr) (cap Gx Lx Mx : Nat), k ≤ len ∧ i = .int .i64 k ∧ gp = .pointer (some ⟨G, 0, none⟩) ∧ xp = .pointer (some ⟨Gx, 0, none⟩) ∧ One w wr G L M R C g P1 A cap ∧ Hid (Grd wr Gx Lx Mx R C g) ∧ Hid (Gx ≠ G ∧ Lx ≠ L ∧ Mx ≠ M)) (fun _ _ i _ => len - (intOf i).toNat)
    case atStart => exact ⟨0, _, _, _, _, _, _, _, _, _, _, _, Nat.zero_le _, rfl, rfl, rfl, HO2.out, HX2, HNE2⟩
    case round =>
      obtain ⟨k, g, R, C, G, L, M, A, cap, Gx, Lx, Mx, hk, rfl, rfl, rfl, hx, HXX, HNE⟩ := hrel
      have HX1 := hide hx
      clear hx
      by_cases hlt : k < len
      · by_cases h40 : k < 30
        · obtain ⟨b, off, a, rfl, lb, hac, -⟩ := (HA.out.below HX1.out.bel).at (i := k) hlt
          clear lb hac
          have r1' := HX1.out.p.ok.r1
          have r2' := HX1.out.p.ok.r2
          have c1' := HX1.out.p.ok.c1
          have c2' := HX1.out.p.ok.c2
          have HOG := hide HX1.out.p.ok
          go_wp2_with fail
          refine (copy_any HX1.out.p.grd r1' r2' c1' c2').mono ?_
          rintro e kc ⟨Gw, Lw, Mw, rfl, hg, hb, n1, n2, n3⟩
          have HO := hide (HX1.out.later hb)
          have HWs := hide hg
          have HXc := hide (HXX.out.later hb)
          have HNW := hide (aside_new HX1.out.p.grd n1 n2 n3)
          clear hg hb n1 n2 n3
          obtain ⟨b', off', a', e1, lb, hac, f0, f1, f2, f3, f4, f5, f6, f7, f8, f9, g0', g1, g2, g3, g4, g5⟩ := (HA.out.below HO.out.bel).at (i := k) hlt
          cases e1
          have HAC := hide hac
          obtain ⟨x0, x1, x2, lx⟩ := cells3 HO.out.p.q
          clear hac
          go_wp2
          refine rgL (fun w' => Below kc.heap.size kc w') 6 [(2, 0), (2, 2), (2, 3), (2, 4), (0, 1), (1, 5), (3, 6), (3, 7), (2, 8), (2, 11), (2, 9), (2, 10), (3, 12)] ((Below.refl _ _).drewN 1) ?_
          iterate 4 refine puL (h := ?_)
          refine stL (hy := fun w hS => by obtain ⟨d0, d1, d2, -⟩ := cells3 (HO.out.p.q.later hS); go_simp <;> with_reducible rfl) (h := ?_)
          refine alL fun K hK => ?_
          go_wp2
          refine hK.out _ _ ((Below.refl _ _).drewN 1) ?_
          clear hK K
          refine laL fun K hK => ?_
          go_wp2_with fail
          refine (do_any HO.out.drew.p.grd HO.out.p.ok A cap HO.out.drew.p.lns HO.out.drew.sp a' (HAC.out.below ((Below.refl _ _).drewN 1))).mono ?_
          rintro e kd ⟨g', R', C', G', L', M', A', cap', rfl, hg, hl, hok, ht, hG, hL, hM⟩
          have HN := hide (HO.out.drew.next hg hl hok ht hG hL hM (cap' := cap'))
          have HQ := hide (HO.out.drew.p.turned ht)
          have HXd := hide (((HXc.out.later bd1).aside HO.out.drew.p.grd ht HNE.out).put3 HQ.out (.slice A' R' cap') (.int .i64 (g'.row : Int)) (.int .i64 (g'.col : Int)))
          have HWd := hide (((HWs.out.later bd1).aside HO.out.drew.p.grd ht HNW.out).put3 HQ.out (.slice A' R' cap') (.int .i64 (g'.row : Int)) (.int .i64 (g'.col : Int)))
          have HOK' := hide hok
          clear hg hl hok ht hG hL hM f0 f1 f2 f3 f4 f5 f6 f7 f8 f9 g0' g1 g2 g3 g4 g5 x0 x1 x2 lx lb
          obtain ⟨x0, x1, x2, lx⟩ := cells3 HQ.out
          have hxf := HQ.out.frozen
          go_wp2
          refine hK.out _ _ ?_
          clear hK K
          refine laL fun K hK => ?_
          go_wp2
          refine hK.out _ _ ?_
          clear hK K
          iterate 4 refine puL (h := ?_)
          refine laL fun K hK => ?_
          go_wp2
          refine hK.out _ _ ?_
          clear hK K
          refine chainL_nil ?_
          clear x0 x1 x2 lx hxf HQ
          obtain ⟨W9, hW9⟩ : ∃ W9, (((kd.setCell ⟨P1, 0, none⟩ (.slice A' R' cap')).setCell ⟨P1, 1, none⟩ (.int .i64 (g'.row : Int))).setCell ⟨P1, 2, none⟩ (.int .i64 (g'.col : Int))) = W9 := ⟨_, rfl⟩
          rw [hW9] at HN HXd HWd ⊢
          clear hW9
          have hck := (apply_of HOG.out HOK'.out).1
          have hap := (apply_of HOG.out HOK'.out).2.2
          have hkk := ofD_ok HOG.out HOK'.out
          have hea := ofD_each HOG.out HOK'.out
          have hle := ofD_len HOG.out HOK'.out
          have hrw : (ofD g g' R' C').rows = (R' : Int) ∧ (ofD g g' R' C').cols = (C' : Int) := ⟨rfl, rfl⟩
          obtain ⟨d, hd⟩ : ∃ d, ofD g g' R' C' = d := ⟨_, rfl⟩
          rw [hd] at hck hap hkk hea hle hrw
          have HDD := hide hd
          have HCK := hide hck
          have HAP := hide hap
          have HKK := hide hkk
          have HRW := hide hrw
          have HLB : Hid (∀ s ∈ d.ss, LB s.cs) := fun s hs => (hea s hs).1
          have HN6 : Hid (d.ss.length ≤ 1000000) := Nat.le_trans hle (by decide)
          clear hd hck hap hkk hea hle hrw
          go_wp2_with fail
          refine (dfof_any HWd.out HOG.out HN.out.p.grd HOK'.out).mono ?_
          rw [HDD.out]
          rintro e ke ⟨A3, c3, rfl, hd3, hb3⟩
          have HNe := hide (HN.out.later hb3)
          have HXe := hide (HXd.out.later hb3)
          have HD3 := hide hd3
          clear hd3 hb3
          go_wp2_with fail
          refine (dfapply_any HXe.out HOG.out HNe.out.sp W9.heap.size 47 65 d A3 d.ss.length c3 HD3.out.sps HD3.out.cle rfl HN6.out HLB.out HCK.out).mono ?_
          rw [HRW.out.1, HRW.out.2, Int.toNat_natCast, Int.toNat_natCast, HKK.out, HAP.out]
          rintro e kf hf
          unfold Applied at hf
          rw [if_pos rfl] at hf
          obtain ⟨Gy, Ly, My, rfl, hgy, hby, n1, n2, n3⟩ := hf
          have HNf := hide (HNe.out.later hby)
          have HXf := hide hgy
          have HNEf := hide (aside_new HNe.out.p.grd n1 n2 n3)
          clear hgy hby n1 n2 n3
          go_wp2
          go_roundw
          case rel => exact ⟨k + 1, _, _, _, _, _, _, _, _, _, _, _, hlt, by go_num, by rfl, by rfl, HNf.out, HXf, HNEf⟩
          case measure => simp [intOf]; exact arM hlt
        ·
          have HOGk := hide HX1.out.p.ok
          have r2' := HX1.out.p.ok.r2
          have c2' := HX1.out.p.ok.c2
          go_wp2_with fail
          refine (dknown_any wr HX1.out.sp).mono ?_
          rintro e v1 ⟨rfl, hb1⟩
          have HV1 := hide (HX1.out.bel.trans (hb1.mono HX1.out.bel.size))
          have HXg := hide (HX1.out.p.grd.later hb1)
          have HXx := hide (HXX.out.later hb1)
          clear hb1
          go_wp2_with fail
          refine (gsame_any HXx.out HXg.out r2' r2' c2').mono ?_
          rw [sameG_self]
          rintro e v2 ⟨rfl, hb2⟩
          have HV2 := hide (HV1.out.trans (hb2.mono HV1.out.size))
          clear hb2
          go_wp2
          go_ret
          exact ⟨rfl, HV2.out⟩
      ·
        have HOGk := hide HX1.out.p.ok
        have r2' := HX1.out.p.ok.r2
        have c2' := HX1.out.p.ok.c2
        go_wp2_with fail
        refine (dknown_any wr HX1.out.sp).mono ?_
        rintro e v1 ⟨rfl, hb1⟩
        have HV1 := hide (HX1.out.bel.trans (hb1.mono HX1.out.bel.size))
        have HXg := hide (HX1.out.p.grd.later hb1)
        have HXx := hide (HXX.out.later hb1)
        clear hb1
        go_wp2_with fail
        refine (gsame_any HXx.out HXg.out r2' r2' c2').mono ?_
        rw [sameG_self]
        rintro e v2 ⟨rfl, hb2⟩
        have HV2 := hide (HV1.out.trans (hb2.mono HV1.out.size))
        clear hb2
        go_wp2
        go_ret
        exact ⟨rfl, HV2.out⟩
  · obtain ⟨W1, hW1⟩ : ∃ W1, k1.alloc (.cells #[.slice none 0 0, .int .i64 0, .int .i64 0] 26) = W1 := ⟨_, rfl⟩
    have HB1 : Hid (Below w.heap.size w W1) := by unfold Hid; rw [← hW1]; exact hb.alloc hb.size _
    have HW1 := hide hW1
    clear hb hW1
    go_wp2_with fail
    rw [HW1.out]
    refine (dknown_any W1 (HS.out.below HB1.out)).mono ?_
    rintro e v1 ⟨rfl, hb1⟩
    have HV1 := hide (HB1.out.trans (hb1.mono HB1.out.size))
    clear hb1
    go_wp2
    go_ret
    exact ⟨rfl, HV1.out⟩
end Go.Proofs.YtoddfaoifnkhlaaGreatDoor
