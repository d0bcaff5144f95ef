/-
  The walk of the law DiffApplies.
-/
import Derived.Test.YtoddfaoifnkhlaaGreatDoorDWalkB
import Derived.Test.YtoddfaoifnkhlaaGreatDoorDMade
import Derived.Test.YtoddfaoifnkhlaaGreatDoorDKnown
import Derived.Test.YtoddfaoifnkhlaaGreatDoorDCheck
import Derived.Test.YtoddfaoifnkhlaaGreatDoorDCut
import Derived.Test.YtoddfaoifnkhlaaGreatDoorDRef1
import Derived.Test.YtoddfaoifnkhlaaGreatDoorDApply
import Derived.Test.YtoddfaoifnkhlaaGreatDoorDRApply
import Derived.Test.YtoddfaoifnkhlaaGreatDoorB14
import Derived.Test.YtoddfaoifnkhlaaGreatDoorDOpen
import Derived.Deep.DeepCutAuto
import Derived.Deep.CutRange
namespace Go.Proofs.YtoddfaoifnkhlaaGreatDoor
set_option maxRecDepth 100000
open Go.ChangeShapes Go.WideShapes Go.ChangeAt Go.RowKit
set_option linter.unusedVariables false

theorem applied_ok {d : Df} {g : Gd} {R' C' : Nat} (hok : GOk g R' C') (hlb : ∀ s ∈ d.ss, LB s.cs) (hE : checkD d = 0) : GOk (applyG d g) d.rows.toNat d.cols.toNat := by
  obtain ⟨R9, C9, r0, l0, ss⟩ := d
  obtain ⟨hsz, -⟩ := check_zero hE
  obtain ⟨R, C, rfl, rfl, r1, r2, c1, c2⟩ := sizeN_small hsz
  unfold applyG
  simp only [Int.toNat_natCast] at *
  exact (GOk.fold ss (hok.fit r1 r2 c1 c2) hlb).move _ _
theorem applyE_check {d : Df} {g : Gd} (h : applyE d g = 0) : checkD d = 0 := by
  unfold applyE at h
  split at h
  · rename_i q; exact q
  · exact h
theorem rdapply_all {w : World} {R' C' : Nat} {g : Gd} (B : Option Addr) (cb : Nat) (h : Lns w B g.ls) (hok : GOk g R' C') (C0 : Nat) (te t : TypeId) (d : Df) (A : Option Addr) (n c : Nat) (hsp : Sps C0 te t .i64 w A d.ss) (hC : C0 ≤ w.heap.size) (hn : d.ss.length = n) (hl : n ≤ 1000000) (hlb : ∀ s ∈ d.ss, LB s.cs) :
    Calls Tryz.prog 21 #[.agg #[.int .i64 d.rows, .int .i64 d.cols, .int .i64 d.row, .int .i64 d.col, .slice A n c], .agg #[.slice B R' cb, .int .i64 (g.row : Int), .int .i64 (g.col : Int)]] w fun e w' => Below w.heap.size w w' ∧ ∃ (A2 : Option Addr) (R2 c2 : Nat) (r l : Int), e = .returned (.tuple #[.agg #[.slice A2 R2 c2, .int .i64 r, .int .i64 l], .int .i64 (applyE d g)]) ∧ (applyE d g = 0 → R2 = d.rows.toNat ∧ r = ((applyG d g).row : Int) ∧ l = ((applyG d g).col : Int) ∧ Lns w' A2 (applyG d g).ls) := by
  by_cases hE : checkD d = 0
  · refine (rdapply_any B cb h hok C0 te t d A n c hsp hC hn hl hlb hE).mono ?_
    rintro e w' he
    unfold AppliedD at he
    unfold applyE
    rw [if_pos hE]
    split at he
    · rename_i q
      obtain ⟨A2, c2, rfl, h1, h2⟩ := he
      rw [if_pos q]
      exact ⟨h2, A2, _, c2, _, _, rfl, fun _ => ⟨rfl, rfl, rfl, h1⟩⟩
    · rename_i q
      obtain ⟨rfl, h2⟩ := he
      rw [if_neg q]
      exact ⟨h2, none, 0, 0, 0, 0, rfl, fun q => absurd q (by decide)⟩
  · refine (rdapply_bad C0 te t d g A B n c R' cb w hsp hC hn hl hE).mono ?_
    rintro e w' ⟨rfl, h2⟩
    unfold applyE
    rw [if_neg hE]
    exact ⟨h2, none, 0, 0, 0, 0, rfl, fun q => absurd q hE⟩
theorem dfapply_all {w : World} {G L M R' C' : Nat} {g : Gd} (h : Grd w G L M R' C' g) (hok : GOk g R' C') (hS : Spans w) (C0 : Nat) (te t : TypeId) (d : Df) (A : Option Addr) (n c : Nat) (hsp : Sps C0 te t .i32 w A d.ss) (hC : C0 ≤ w.heap.size) (hn : d.ss.length = n) (hl : n ≤ 1000000) (hlb : ∀ s ∈ d.ss, LB s.cs) :
    Calls Tryz.prog 15 #[.agg #[.int .i64 d.rows, .int .i64 d.cols, .int .i64 d.row, .int .i64 d.col, .slice A n c], .pointer (some ⟨G, 0, none⟩)] w fun e w' => ∃ v, e = .returned (.tuple #[v, .int .i64 (applyE d g)]) ∧ Below w.heap.size w w' ∧ ((applyE d g = 0 ∧ ∃ G2 L2 M2, v = .pointer (some ⟨G2, 0, none⟩) ∧ Grd w' G2 L2 M2 d.rows.toNat d.cols.toNat (applyG d g)) ∨ (applyE d g ≠ 0 ∧ v = .pointer none)) := by
  by_cases hE : checkD d = 0
  · refine (dfapply_any h hok hS C0 te t d A n c hsp hC hn hl hlb hE).mono ?_
    rintro e w' he
    unfold Applied at he
    unfold applyE
    rw [if_pos hE]
    split at he
    · rename_i q
      obtain ⟨G2, L2, M2, rfl, h1, h2, -⟩ := he
      rw [if_pos q]
      exact ⟨_, rfl, h2, .inl ⟨rfl, _, _, _, rfl, h1⟩⟩
    · rename_i q
      obtain ⟨rfl, h2⟩ := he
      rw [if_neg q]
      exact ⟨_, rfl, h2, .inr ⟨by decide, rfl⟩⟩
  · refine (dfapply_bad C0 te t d A n c G w hsp hC hn hl hE).mono ?_
    rintro e w' ⟨rfl, h2⟩
    unfold applyE
    rw [if_neg hE]
    exact ⟨_, rfl, h2, .inr ⟨hE, rfl⟩⟩
theorem lns_put3 {w : World} {q : Nat} {l : List Value} {A : Option Addr} {ls : List (List Cel)} (h : Lns w A ls) (hq : Whole w q 26 l) (x0 x1 x2 : Value) : Lns (((w.setCell ⟨q, 0, none⟩ x0).setCell ⟨q, 1, none⟩ x1).setCell ⟨q, 2, none⟩ x2) A ls :=
  ((h.keep (Stays.put hq (by decide)) (Stays.put hq (by decide))).keep (Stays.put (hq.put 0 x0) (by decide)) (Stays.put (hq.put 0 x0) (by decide))).keep (Stays.put ((hq.put 0 x0).put 1 x1) (by decide)) (Stays.put ((hq.put 0 x0).put 1 x1) (by decide))
set_option maxHeartbeats 1500000 in
theorem diffApplies_walk (d : Df) (A : Option Addr) (c : Nat) (a1 a2 : Int) (A3 : Option Addr) (len3 cap3 : Nat) (w : World) (hd : DfIn w d A c) (h1 : (Lit.int .i64 a1).wf = true) (h2 : (Lit.int .i64 a2).wf = true) (h3 : Acts w A3 len3) (hS : Spans w) :
    Calls Tryz.prog 4 #[.agg #[.int .i64 d.rows, .int .i64 d.cols, .int .i64 d.row, .int .i64 d.col, .slice A d.ss.length c], .int .i64 a1, .int .i64 a2, .slice A3 len3 cap3] w fun e w' => e = .returned (.bool true) ∧ Below w.heap.size w w' := by
  obtain ⟨W0, hW0⟩ : ∃ W0, w.alloc (.cells #[.int .i64 d.rows, .int .i64 d.cols, .int .i64 d.row, .int .i64 d.col, .slice A d.ss.length c] 33) = W0 := ⟨_, rfl⟩
  have HB0 : Hid (Below w.heap.size w W0) := by unfold Hid; rw [← hW0]; exact new1W _ _
  have HX0 : Hid (Whole W0 w.heap.size 33 [.int .i64 d.rows, .int .i64 d.cols, .int .i64 d.row, .int .i64 d.col, .slice A d.ss.length c]) := by unfold Hid; rw [← hW0]; exact Whole.new w 33 [.int .i64 d.rows, .int .i64 d.cols, .int .i64 d.row, .int .i64 d.col, .slice A d.ss.length c]
  have HSA := hide ((hd.ok.sps.below HB0.out (Nat.le_refl _)).up HB0.out.size)
  have hla := cut_LB d hd.lb
  have hca := cut_cells d
  have hna : (cutD d).ss.length ≤ 10 := cutTo_len d.ss 10
  obtain ⟨a', ha'⟩ : ∃ a', cutD d = a' := ⟨_, rfl⟩
  rw [ha'] at hla hca hna
  obtain ⟨n3, hn3⟩ : ∃ n3, a'.ss.length = n3 := ⟨_, rfl⟩
  rw [hn3] at hna
  obtain ⟨E, hE⟩ : ∃ E, checkD a' = E := ⟨_, rfl⟩
  have HDA := hide ha'
  have HN3 := hide hn3
  have HE := hide hE
  have HM3 : Hid (n3 ≤ 1000000) := Nat.le_trans hna (by decide)
  have HLBa := hide hla
  have HBDa : Hid (∀ s ∈ a'.ss, s.cs.length ≤ 1000000) := fun s hs => Nat.le_trans (hca s hs) (by decide)
  have HS := hide hS
  have H3 := hide h3
  have HW0 := hide hW0
  clear hd h1 h2 h3 hS hla hca hna ha' hn3 hE hW0
  obtain ⟨f0, f1, f2, f3, f4, lf⟩ := cells5 HX0.out
  go_enter Tryz.func4, Tryz.ntmps4
  go_wp2_with fail
  rw [HW0.out]
  refine (dcut_any W0.heap.size 47 65 d A d.ss.length c W0 HSA.out rfl).mono ?_
  intro e k1 h1
  rw [HDA.out] at h1
  obtain ⟨A4, c4, rfl, hd1, hb1⟩ := h1
  rw [HN3.out]
  clear f0 f1 f2 f3 f4 lf
  have hx2 := HX0.out.later hb1
  obtain ⟨f0, f1, f2, f3, f4, lf⟩ := cells5 hx2
  have ff := hx2.frozen
  have HX1 := hide (put5 hx2 (.int .i64 a'.rows) (.int .i64 a'.cols) (.int .i64 a'.row) (.int .i64 a'.col) (.slice A4 n3 c4))
  have HD1 := hide (dfOk_put5 hd1 hx2 (.int .i64 a'.rows) (.int .i64 a'.cols) (.int .i64 a'.row) (.int .i64 a'.col) (.slice A4 n3 c4))
  have HB1 := hide (below_put5 (HB0.out.trans (hb1.mono HB0.out.size)) (Nat.le_refl _) (.int .i64 a'.rows) (.int .i64 a'.cols) (.int .i64 a'.row) (.int .i64 a'.col) (.slice A4 n3 c4))
  obtain ⟨W1, hW1⟩ : ∃ W1, (((((k1.setCell ⟨w.heap.size, 0, none⟩ (.int .i64 a'.rows)).setCell ⟨w.heap.size, 1, none⟩ (.int .i64 a'.cols)).setCell ⟨w.heap.size, 2, none⟩ (.int .i64 a'.row)).setCell ⟨w.heap.size, 3, none⟩ (.int .i64 a'.col)).setCell ⟨w.heap.size, 4, none⟩ (.slice A4 n3 c4)) = W1 := ⟨_, rfl⟩
  rw [hW1] at HX1 HD1 HB1
  have HW1 := hide hW1
  clear hW1 hx2 hd1 hb1
  go_wp2_with fail
  rw [HW1.out]
  clear f0 f1 f2 f3 f4 lf ff
  refine (dmade_any a1 a2 A3 len3 cap3 W1 (H3.out.below HB1.out) (HS.out.below HB1.out)).mono ?_
  rintro e k2 hm2
  rcases hm2 with ⟨g, R, C, G, L, M, A5, cap5, rfl, ⟨hg, hb, n1, n2, -⟩, hl, hok⟩ | ⟨rfl, hb⟩
  · obtain ⟨P2, hP2⟩ : ∃ P2, k2.heap.size = P2 := ⟨_, rfl⟩
    obtain ⟨W2, hW2⟩ : ∃ W2, k2.alloc (.cells #[.slice A5 R cap5, .int .i64 (g.row : Int), .int .i64 (g.col : Int)] 26) = W2 := ⟨_, rfl⟩
    have hb2 : Below k2.heap.size k2 W2 := by rw [← hW2]; exact new1W _ _
    have hb12 : Below W1.heap.size W1 W2 := hb.trans (hb2.mono hb.size)
    have HP2 : Hid (Whole W2 P2 26 [.slice A5 R cap5, .int .i64 (g.row : Int), .int .i64 (g.col : Int)]) := by unfold Hid; rw [← hW2, ← hP2]; exact Whole.new k2 26 [.slice A5 R cap5, .int .i64 (g.row : Int), .int .i64 (g.col : Int)]
    have HG2 := hide (hg.later hb2)
    have HL2 := hide (hl.below hb2)
    have HOG := hide hok
    have HX2 := hide (HX1.out.later hb12)
    have HD2 := hide (HD1.out.below hb12)
    have HB2 := hide (HB1.out.trans (hb12.mono HB1.out.size))
    have HW2 := hide hW2
    have HP2q := hide hP2
    clear hg hb n1 n2 hl hok hP2 hW2 hb2 hb12
    go_upto_region 3 with fail
    rw [HW2.out, HP2q.out]
    refine rgH (fun w' => Below W2.heap.size W2 w') [(true, 0), (true, 2), (false, 1), (false, 3), (false, 4), (false, 5)] ((Below.refl _ _).drewN 1) ?_
    refine stH (hy := fun w hS => by obtain ⟨f0, f1, f2, f3, f4, -⟩ := cells5 (HX2.out.later hS); go_simp <;> with_reducible rfl) (h := ?_)
    refine stH (hy := fun w hS => by obtain ⟨f0, f1, f2, f3, f4, -⟩ := cells5 (HX2.out.later hS); go_simp <;> with_reducible rfl) (h := ?_)
    refine alH fun K hK => ?_
    go_wp2_with fail
    refine (dfcheck_any 0 47 65 a' A4 n3 c4 W2.drew (HD2.out.below ((Below.refl _ _).drewN 1)).sps (Nat.zero_le _) HN3.out HM3.out).mono ?_
    rintro e k3 ⟨rfl, hb⟩
    rw [HE.out]
    have B1 : Below W2.heap.size W2 k3 := ((Below.refl W2.heap.size W2).drewN 1).trans hb
    clear hb
    go_wp2
    refine hK.out _ _ (B1) ?_
    clear hK K
    refine alH fun K hK => ?_
    go_wp2_with fail
    refine (ldof_any 0 47 65 a' A4 n3 c4 k3 (HD2.out.below B1).sps HN3.out HM3.out HBDa.out HLBa.out).mono ?_
    rintro e k4 ⟨A6, c6, rfl, hd6, hb⟩
    have B2 : Below W2.heap.size W2 k4 := B1.trans (hb.mono B1.size)
    have HD6 := hide hd6
    rw [HN3.out]
    clear hb hd6
    go_wp2
    refine hK.out _ _ (B2) ?_
    clear hK K
    refine alH fun K hK => ?_
    go_wp2_with fail
    refine (rdcheck_any _ _ _ a' A6 n3 c6 k4 HD6.out.sps HD6.out.cle HN3.out HM3.out).mono ?_
    rintro e k5 ⟨rfl, hb⟩
    rw [HE.out]
    have B3 : Below W2.heap.size W2 k5 := B2.trans (hb.mono B2.size)
    clear hb
    go_wp2
    refine hK.out _ _ (B3) ?_
    clear hK K
    refine alH fun K hK => ?_
    go_wp2
    refine hK.out _ _ (B3) ?_
    clear hK K
    refine chainH_nil ?_
    have HX3 := hide (HX2.out.later B3)
    have HG3 := hide (HG2.out.later B3)
    have HL3 := hide (HL2.out.below B3)
    have HP3 := hide (HP2.out.later B3)
    have HD3 := hide (HD2.out.below B3)
    have HB3 := hide (HB2.out.trans (B3.mono HB2.out.size))
    clear B1 B2 B3
    obtain ⟨f0, f1, f2, f3, f4, lf⟩ := cells5 HX3.out
    go_wp2_with fail
    refine (dfapply_all HG3.out HOG.out (HS.out.below HB3.out) 0 47 65 a' A4 n3 c4 HD3.out.sps (Nat.zero_le _) HN3.out HM3.out HLBa.out).mono ?_
    rintro e k6 ⟨v, rfl, hb6, hv⟩
    obtain ⟨Er, hEr⟩ : ∃ Er, applyE a' g = Er := ⟨_, rfl⟩
    rw [hEr] at hv ⊢
    have HEr := hide hEr
    have HXk := hide (HX3.out.later hb6)
    have HGk := hide (HG3.out.later hb6)
    have HLk := hide (HL3.out.below hb6)
    have HPk := hide (HP3.out.later hb6)
    have HDk := hide (HD3.out.below hb6)
    have HBk := hide (HB3.out.trans (hb6.mono HB3.out.size))
    clear f0 f1 f2 f3 f4 lf hEr hb6
    rcases hv with ⟨rfl, G7, L7, M7, rfl, hg7⟩ | ⟨hne, rfl⟩
    · have HG7 := hide hg7
      clear hg7
      go_upto_region 8 with fail
      go_cut [13, 14] from 47 to 53 (fun p q wx => ∃ P, p = .pointer (some ⟨P, 0, none⟩) ∧ q = .int .i64 0 ∧ Hid (∃ (A9 : Option Addr) (R9 c9 : Nat) (r9 l9 : Int), Whole wx P 26 [.slice A9 R9 c9, .int .i64 r9, .int .i64 l9] ∧ (R9 = a'.rows.toNat ∧ r9 = ((applyG a' g).row : Int) ∧ l9 = ((applyG a' g).col : Int) ∧ Lns wx A9 (applyG a' g).ls) ∧ Below k6.heap.size k6 wx))
      case first =>
        refine rgT (fun w' => Below k6.heap.size k6 w') (.take 0 (.take 2 (.two 1 (.two 3 (.take 4 (.take 5 (.take 6 (.alone 7 (.alone 8 (.alone 9 .done)))))) 7 (.alone 3 (.take 4 (.take 5 (.take 6 (.alone 8 (.alone 9 .done))))))) 7 (.alone 1 (.alone 3 (.take 4 (.take 5 (.take 6 (.alone 8 (.alone 9 .done)))))))))) ((Below.refl _ _).drewN 1) ?_
        obtain ⟨w7, hw7⟩ : ∃ w7, k6.drew = w7 := ⟨_, rfl⟩
        have B0 : Below k6.heap.size k6 w7 := by rw [← hw7]; exact (Below.refl _ _).drewN 1
        rw [hw7]
        clear hw7
        refine stT (hy := fun w hS => by obtain ⟨f0, f1, f2, f3, f4, -⟩ := cells5 (HXk.out.later hS); go_simp <;> with_reducible rfl) (h := ?_)
        refine stT (hy := fun w hS => by obtain ⟨f0, f1, f2, -⟩ := cells3 (HPk.out.later hS); go_simp <;> with_reducible rfl) (h := ?_)
        refine tree_two (by simp only [List.getElem?_toArray, List.getElem?_cons_zero, List.getElem?_cons_succ]; rfl) (by simp only [List.getElem?_toArray, List.getElem?_cons_zero, List.getElem?_cons_succ]; rfl) ?_ ?_
        · intro K hK
          go_wp2_with fail
          refine (ldof_any 0 47 65 a' A4 n3 c4 w7 (HDk.out.below B0).sps HN3.out HM3.out HBDa.out HLBa.out).mono ?_
          rintro e k7 ⟨A8, c8, rfl, hd8, hb⟩
          rw [HN3.out]
          have B1 : Below k6.heap.size k6 k7 := B0.trans (hb.mono B0.size)
          have HD8 := hide hd8
          clear hb hd8
          go_wp2
          refine hK.out _ _ B1 ?_
          clear hK K
          refine tree_two (by simp only [List.getElem?_toArray, List.getElem?_cons_zero, List.getElem?_cons_succ]; rfl) (by simp only [List.getElem?_toArray, List.getElem?_cons_zero, List.getElem?_cons_succ]; rfl) ?_ ?_
          · intro K hK
            go_wp2_with fail
            refine (rdapply_all A5 cap5 (HLk.out.below B1) HOG.out _ _ _ a' A8 n3 c8 HD8.out.sps HD8.out.cle HN3.out HM3.out HLBa.out).mono ?_
            rintro e k8 ⟨hb, A9, R9, c9, r9, l9, rfl, hz⟩
            rw [HEr.out] at hz ⊢
            have B2 : Below k6.heap.size k6 k8 := B1.trans (hb.mono B1.size)
            have HZ : Hid (R9 = a'.rows.toNat ∧ r9 = ((applyG a' g).row : Int) ∧ l9 = ((applyG a' g).col : Int) ∧ Lns k8 A9 (applyG a' g).ls) := hz rfl
            clear hb hz
            go_wp2
            refine hK.out _ _ B2 ?_
            clear hK K
            iterate 3 refine stT (h := ?_)
            refine alT fun K hK => ?_
            go_wp2
            refine hK.out _ _ (B2.alloc B2.size _) ?_
            clear hK K
            obtain ⟨V, hV⟩ : ∃ V, k8.alloc (.cells #[.slice none 0 0, .int .i64 0, .int .i64 0] 26) = V := ⟨_, rfl⟩
            obtain ⟨q, hq⟩ : ∃ q, k8.heap.size = q := ⟨_, rfl⟩
            have HV0 : Hid (Whole V q 26 [.slice none 0 0, .int .i64 0, .int .i64 0]) := by unfold Hid; rw [← hV, ← hq]; exact Whole.new k8 26 [.slice none 0 0, .int .i64 0, .int .i64 0]
            have B3 : Below k6.heap.size k6 V := by rw [← hV]; exact B2.alloc B2.size _
            have hqk : k6.heap.size ≤ q := by rw [← hq]; exact B2.size
            have HZV : Hid (R9 = a'.rows.toNat ∧ r9 = ((applyG a' g).row : Int) ∧ l9 = ((applyG a' g).col : Int) ∧ Lns V A9 (applyG a' g).ls) := ⟨HZ.out.1, HZ.out.2.1, HZ.out.2.2.1, by rw [← hV]; exact HZ.out.2.2.2.alloc _⟩
            rw [hV, hq]
            clear hV hq
            have hVF := HV0.out.frozen
            obtain ⟨p0, p1, p2, lp⟩ := cells3 HV0.out
            refine alT fun K hK => ?_
            go_wp2
            refine hK.out _ _ (below_put3 B3 hqk _ _ _) ?_
            clear hK K
            have HF : Hid (∃ (A9x : Option Addr) (R9x c9x : Nat) (r9x l9x : Int), Whole (((V.setCell ⟨q, 0, none⟩ (.slice A9 R9 c9)).setCell ⟨q, 1, none⟩ (.int .i64 r9)).setCell ⟨q, 2, none⟩ (.int .i64 l9)) q 26 [.slice A9x R9x c9x, .int .i64 r9x, .int .i64 l9x] ∧ (R9x = a'.rows.toNat ∧ r9x = ((applyG a' g).row : Int) ∧ l9x = ((applyG a' g).col : Int) ∧ Lns (((V.setCell ⟨q, 0, none⟩ (.slice A9 R9 c9)).setCell ⟨q, 1, none⟩ (.int .i64 r9)).setCell ⟨q, 2, none⟩ (.int .i64 l9)) A9x (applyG a' g).ls) ∧ Below k6.heap.size k6 (((V.setCell ⟨q, 0, none⟩ (.slice A9 R9 c9)).setCell ⟨q, 1, none⟩ (.int .i64 r9)).setCell ⟨q, 2, none⟩ (.int .i64 l9))) :=
              ⟨A9, R9, c9, r9, l9, put3 HV0.out _ _ _, ⟨HZV.out.1, HZV.out.2.1, HZV.out.2.2.1, lns_put3 HZV.out.2.2.2 HV0.out _ _ _⟩, below_put3 B3 hqk _ _ _⟩
            clear p0 p1 p2 lp hVF
            refine alT fun K hK => ?_
            go_wp2
            refine hK.out _ _ (below_put3 B3 hqk _ _ _) ?_
            clear hK K
            refine tree_done ?_
            go_wp2
            go_meet
            case rel => exact ⟨_, rfl, rfl, HF⟩
          · intro K hK
            go_wp2
            refine hK.out _ _ (B1.alloc B1.size _) ?_
            clear hK K
            obtain ⟨V, hV⟩ : ∃ V, k7.alloc (.cells #[.slice none 0 0, .int .i64 0, .int .i64 0] 26) = V := ⟨_, rfl⟩
            obtain ⟨q, hq⟩ : ∃ q, k7.heap.size = q := ⟨_, rfl⟩
            have HV0 : Hid (Whole V q 26 [.slice none 0 0, .int .i64 0, .int .i64 0]) := by unfold Hid; rw [← hV, ← hq]; exact Whole.new k7 26 [.slice none 0 0, .int .i64 0, .int .i64 0]
            have B2 : Below k6.heap.size k6 V := by rw [← hV]; exact B1.alloc B1.size _
            have hqk : k6.heap.size ≤ q := by rw [← hq]; exact B1.size
            have HDV : Hid (DfOk w7.heap.size 87 95 .i64 V a' A8 c8) := by unfold Hid; rw [← hV]; exact HD8.out.below (new1W _ _)
            rw [hV, hq]
            clear hV hq
            refine alT fun K hK => ?_
            go_wp2_with fail
            refine (rdapply_all A5 cap5 (HLk.out.below B2) HOG.out _ _ _ a' A8 n3 c8 HDV.out.sps HDV.out.cle HN3.out HM3.out HLBa.out).mono ?_
            rintro e k8 ⟨hb, A9, R9, c9, r9, l9, rfl, hz⟩
            rw [HEr.out] at hz ⊢
            have B3 : Below k6.heap.size k6 k8 := B2.trans (hb.mono B2.size)
            have HZ : Hid (R9 = a'.rows.toNat ∧ r9 = ((applyG a' g).row : Int) ∧ l9 = ((applyG a' g).col : Int) ∧ Lns k8 A9 (applyG a' g).ls) := hz rfl
            have HV1 := hide (HV0.out.later hb)
            clear hb hz
            go_wp2
            refine hK.out _ _ B3 ?_
            clear hK K
            iterate 3 refine stT (h := ?_)
            have hVF := HV1.out.frozen
            obtain ⟨p0, p1, p2, lp⟩ := cells3 HV1.out
            refine alT fun K hK => ?_
            go_wp2
            refine hK.out _ _ (below_put3 B3 hqk _ _ _) ?_
            clear hK K
            have HF : Hid (∃ (A9x : Option Addr) (R9x c9x : Nat) (r9x l9x : Int), Whole (((k8.setCell ⟨q, 0, none⟩ (.slice A9 R9 c9)).setCell ⟨q, 1, none⟩ (.int .i64 r9)).setCell ⟨q, 2, none⟩ (.int .i64 l9)) q 26 [.slice A9x R9x c9x, .int .i64 r9x, .int .i64 l9x] ∧ (R9x = a'.rows.toNat ∧ r9x = ((applyG a' g).row : Int) ∧ l9x = ((applyG a' g).col : Int) ∧ Lns (((k8.setCell ⟨q, 0, none⟩ (.slice A9 R9 c9)).setCell ⟨q, 1, none⟩ (.int .i64 r9)).setCell ⟨q, 2, none⟩ (.int .i64 l9)) A9x (applyG a' g).ls) ∧ Below k6.heap.size k6 (((k8.setCell ⟨q, 0, none⟩ (.slice A9 R9 c9)).setCell ⟨q, 1, none⟩ (.int .i64 r9)).setCell ⟨q, 2, none⟩ (.int .i64 l9))) :=
              ⟨A9, R9, c9, r9, l9, put3 HV1.out _ _ _, ⟨HZ.out.1, HZ.out.2.1, HZ.out.2.2.1, lns_put3 HZ.out.2.2.2 HV1.out _ _ _⟩, below_put3 B3 hqk _ _ _⟩
            clear p0 p1 p2 lp hVF
            refine alT fun K hK => ?_
            go_wp2
            refine hK.out _ _ (below_put3 B3 hqk _ _ _) ?_
            clear hK K
            refine tree_done ?_
            go_wp2
            go_meet
            case rel => exact ⟨_, rfl, rfl, HF⟩
        · intro K hK
          go_wp2
          refine hK.out _ _ (B0.alloc B0.size _) ?_
          clear hK K
          obtain ⟨V, hV⟩ : ∃ V, w7.alloc (.cells #[.slice none 0 0, .int .i64 0, .int .i64 0] 26) = V := ⟨_, rfl⟩
          obtain ⟨q, hq⟩ : ∃ q, w7.heap.size = q := ⟨_, rfl⟩
          have HV0 : Hid (Whole V q 26 [.slice none 0 0, .int .i64 0, .int .i64 0]) := by unfold Hid; rw [← hV, ← hq]; exact Whole.new w7 26 [.slice none 0 0, .int .i64 0, .int .i64 0]
          have B1 : Below k6.heap.size k6 V := by rw [← hV]; exact B0.alloc B0.size _
          have hqk : k6.heap.size ≤ q := by rw [← hq]; exact B0.size
          rw [hV, hq]
          clear hV hq
          refine alT fun K hK => ?_
          go_wp2_with fail
          refine (ldof_any 0 47 65 a' A4 n3 c4 V (HDk.out.below B1).sps HN3.out HM3.out HBDa.out HLBa.out).mono ?_
          rintro e k7 ⟨A8, c8, rfl, hd8, hb⟩
          rw [HN3.out]
          have B2 : Below k6.heap.size k6 k7 := B1.trans (hb.mono B1.size)
          have HD8 := hide hd8
          have HV1 := hide (HV0.out.later hb)
          clear hb hd8
          go_wp2
          refine hK.out _ _ B2 ?_
          clear hK K
          refine alT fun K hK => ?_
          go_wp2_with fail
          refine (rdapply_all A5 cap5 (HLk.out.below B2) HOG.out _ _ _ a' A8 n3 c8 HD8.out.sps HD8.out.cle HN3.out HM3.out HLBa.out).mono ?_
          rintro e k8 ⟨hb, A9, R9, c9, r9, l9, rfl, hz⟩
          rw [HEr.out] at hz ⊢
          have B3 : Below k6.heap.size k6 k8 := B2.trans (hb.mono B2.size)
          have HZ : Hid (R9 = a'.rows.toNat ∧ r9 = ((applyG a' g).row : Int) ∧ l9 = ((applyG a' g).col : Int) ∧ Lns k8 A9 (applyG a' g).ls) := hz rfl
          have HV2 := hide (HV1.out.later hb)
          clear hb hz
          go_wp2
          refine hK.out _ _ B3 ?_
          clear hK K
          iterate 3 refine stT (h := ?_)
          have hVF := HV2.out.frozen
          obtain ⟨p0, p1, p2, lp⟩ := cells3 HV2.out
          refine alT fun K hK => ?_
          go_wp2
          refine hK.out _ _ (below_put3 B3 hqk _ _ _) ?_
          clear hK K
          have HF : Hid (∃ (A9x : Option Addr) (R9x c9x : Nat) (r9x l9x : Int), Whole (((k8.setCell ⟨q, 0, none⟩ (.slice A9 R9 c9)).setCell ⟨q, 1, none⟩ (.int .i64 r9)).setCell ⟨q, 2, none⟩ (.int .i64 l9)) q 26 [.slice A9x R9x c9x, .int .i64 r9x, .int .i64 l9x] ∧ (R9x = a'.rows.toNat ∧ r9x = ((applyG a' g).row : Int) ∧ l9x = ((applyG a' g).col : Int) ∧ Lns (((k8.setCell ⟨q, 0, none⟩ (.slice A9 R9 c9)).setCell ⟨q, 1, none⟩ (.int .i64 r9)).setCell ⟨q, 2, none⟩ (.int .i64 l9)) A9x (applyG a' g).ls) ∧ Below k6.heap.size k6 (((k8.setCell ⟨q, 0, none⟩ (.slice A9 R9 c9)).setCell ⟨q, 1, none⟩ (.int .i64 r9)).setCell ⟨q, 2, none⟩ (.int .i64 l9))) :=
            ⟨A9, R9, c9, r9, l9, put3 HV2.out _ _ _, ⟨HZ.out.1, HZ.out.2.1, HZ.out.2.2.1, lns_put3 HZ.out.2.2.2 HV2.out _ _ _⟩, below_put3 B3 hqk _ _ _⟩
          clear p0 p1 p2 lp hVF
          refine alT fun K hK => ?_
          go_wp2
          refine hK.out _ _ (below_put3 B3 hqk _ _ _) ?_
          clear hK K
          refine tree_done ?_
          go_wp2
          go_meet
          case rel => exact ⟨_, rfl, rfl, HF⟩
      case rest =>
        obtain ⟨P8, rfl, rfl, HH⟩ := hcut
        obtain ⟨A9, R9, c9, r9, l9, hw8, hz8, hb8⟩ := HH.out
        clear HH
        obtain ⟨rfl, rfl, rfl, hl8⟩ := hz8
        have hgo := applied_ok HOG.out HLBa.out (applyE_check HEr.out)
        obtain ⟨gg, hgg⟩ : ∃ gg, applyG a' g = gg := ⟨_, rfl⟩
        obtain ⟨Rr, hRr⟩ : ∃ Rr, a'.rows.toNat = Rr := ⟨_, rfl⟩
        obtain ⟨Cc, hCc⟩ : ∃ Cc, a'.cols.toNat = Cc := ⟨_, rfl⟩
        have hg8 := HG7.out.later hb8
        rw [hgg, hRr, hCc] at hgo hg8
        rw [hgg, hRr] at hw8
        rw [hgg] at hl8
        have HGO := hide hgo
        have HG8 := hide hg8
        have HW8 := hide hw8
        have HL8 := hide hl8
        have HB8 := hide hb8
        have HBw8 := hide (HBk.out.trans (hb8.mono HBk.out.size))
        clear hgo hg8 hw8 hl8 hb8 hgg hRr hCc
        go_wp2_with fail
        refine (dknown_any wc (HS.out.below HBw8.out)).mono ?_
        rintro e v1 ⟨rfl, hb1⟩
        have HV1 := hide hb1
        obtain ⟨f0, f1, f2, lf⟩ := cells3 (HW8.out.later hb1)
        clear hb1
        go_wp2_with fail
        refine (lgsame_yes (HG8.out.later HV1.out) HGO.out A9 c9 (HL8.out.below HV1.out)).mono ?_
        rintro e v2 ⟨rfl, hb2⟩
        have HV2 := hide (HV1.out.trans (hb2.mono HV1.out.size))
        clear hb2 f0 f1 f2 lf
        go_wp2_with fail
        refine (gright_yes (HG8.out.later HV2.out) HGO.out (HS.out.below (HBw8.out.trans (HV2.out.mono HBw8.out.size)))).mono ?_
        rintro e v3 ⟨rfl, hb3⟩
        have HV3 := hide (HV2.out.trans (hb3.mono HV2.out.size))
        clear hb3
        have HBf := hide (HB8.out.trans (HV3.out.mono HB8.out.size))
        obtain ⟨f0, f1, f2, lf⟩ := cells3 (HPk.out.later HBf.out)
        go_wp2_with fail
        refine (lgsame_yes (HGk.out.later HBf.out) HOG.out A5 cap5 (HLk.out.below HBf.out)).mono ?_
        rintro e v4 ⟨rfl, hb4⟩
        have HV4 := hide (HBw8.out.trans ((HV3.out.trans (hb4.mono HV3.out.size)).mono HBw8.out.size))
        clear hb4 f0 f1 f2 lf
        go_wp2
        go_ret
        exact ⟨rfl, HV4.out⟩
    · have hne0 : (Er == 0) = false := by simpa using hne
      go_upto_region 8 with fail
      go_cut [13, 14] from 47 to 53 (fun p q wx => ∃ P, p = .pointer (some ⟨P, 0, none⟩) ∧ q = .int .i64 Er ∧ Hid (∃ (A9 : Option Addr) (R9 c9 : Nat) (r9 l9 : Int), Whole wx P 26 [.slice A9 R9 c9, .int .i64 r9, .int .i64 l9] ∧ True ∧ Below k6.heap.size k6 wx))
      case first =>
        refine rgT (fun w' => Below k6.heap.size k6 w') (.take 0 (.take 2 (.two 1 (.two 3 (.take 4 (.take 5 (.take 6 (.alone 7 (.alone 8 (.alone 9 .done)))))) 7 (.alone 3 (.take 4 (.take 5 (.take 6 (.alone 8 (.alone 9 .done))))))) 7 (.alone 1 (.alone 3 (.take 4 (.take 5 (.take 6 (.alone 8 (.alone 9 .done)))))))))) ((Below.refl _ _).drewN 1) ?_
        obtain ⟨w7, hw7⟩ : ∃ w7, k6.drew = w7 := ⟨_, rfl⟩
        have B0 : Below k6.heap.size k6 w7 := by rw [← hw7]; exact (Below.refl _ _).drewN 1
        rw [hw7]
        clear hw7
        refine stT (hy := fun w hS => by obtain ⟨f0, f1, f2, f3, f4, -⟩ := cells5 (HXk.out.later hS); go_simp <;> with_reducible rfl) (h := ?_)
        refine stT (hy := fun w hS => by obtain ⟨f0, f1, f2, -⟩ := cells3 (HPk.out.later hS); go_simp <;> with_reducible rfl) (h := ?_)
        refine tree_two (by simp only [List.getElem?_toArray, List.getElem?_cons_zero, List.getElem?_cons_succ]; rfl) (by simp only [List.getElem?_toArray, List.getElem?_cons_zero, List.getElem?_cons_succ]; rfl) ?_ ?_
        · intro K hK
          go_wp2_with fail
          refine (ldof_any 0 47 65 a' A4 n3 c4 w7 (HDk.out.below B0).sps HN3.out HM3.out HBDa.out HLBa.out).mono ?_
          rintro e k7 ⟨A8, c8, rfl, hd8, hb⟩
          rw [HN3.out]
          have B1 : Below k6.heap.size k6 k7 := B0.trans (hb.mono B0.size)
          have HD8 := hide hd8
          clear hb hd8
          go_wp2
          refine hK.out _ _ B1 ?_
          clear hK K
          refine tree_two (by simp only [List.getElem?_toArray, List.getElem?_cons_zero, List.getElem?_cons_succ]; rfl) (by simp only [List.getElem?_toArray, List.getElem?_cons_zero, List.getElem?_cons_succ]; rfl) ?_ ?_
          · intro K hK
            go_wp2_with fail
            refine (rdapply_all A5 cap5 (HLk.out.below B1) HOG.out _ _ _ a' A8 n3 c8 HD8.out.sps HD8.out.cle HN3.out HM3.out HLBa.out).mono ?_
            rintro e k8 ⟨hb, A9, R9, c9, r9, l9, rfl, hz⟩
            rw [HEr.out] at hz ⊢
            have B2 : Below k6.heap.size k6 k8 := B1.trans (hb.mono B1.size)
            have HZ : Hid True := trivial
            clear hb hz
            go_wp2
            refine hK.out _ _ B2 ?_
            clear hK K
            iterate 3 refine stT (h := ?_)
            refine alT fun K hK => ?_
            go_wp2
            refine hK.out _ _ (B2.alloc B2.size _) ?_
            clear hK K
            obtain ⟨V, hV⟩ : ∃ V, k8.alloc (.cells #[.slice none 0 0, .int .i64 0, .int .i64 0] 26) = V := ⟨_, rfl⟩
            obtain ⟨q, hq⟩ : ∃ q, k8.heap.size = q := ⟨_, rfl⟩
            have HV0 : Hid (Whole V q 26 [.slice none 0 0, .int .i64 0, .int .i64 0]) := by unfold Hid; rw [← hV, ← hq]; exact Whole.new k8 26 [.slice none 0 0, .int .i64 0, .int .i64 0]
            have B3 : Below k6.heap.size k6 V := by rw [← hV]; exact B2.alloc B2.size _
            have hqk : k6.heap.size ≤ q := by rw [← hq]; exact B2.size
            have HZV : Hid True := trivial
            rw [hV, hq]
            clear hV hq
            have hVF := HV0.out.frozen
            obtain ⟨p0, p1, p2, lp⟩ := cells3 HV0.out
            refine alT fun K hK => ?_
            go_wp2
            refine hK.out _ _ (below_put3 B3 hqk _ _ _) ?_
            clear hK K
            have HF : Hid (∃ (A9x : Option Addr) (R9x c9x : Nat) (r9x l9x : Int), Whole (((V.setCell ⟨q, 0, none⟩ (.slice A9 R9 c9)).setCell ⟨q, 1, none⟩ (.int .i64 r9)).setCell ⟨q, 2, none⟩ (.int .i64 l9)) q 26 [.slice A9x R9x c9x, .int .i64 r9x, .int .i64 l9x] ∧ True ∧ Below k6.heap.size k6 (((V.setCell ⟨q, 0, none⟩ (.slice A9 R9 c9)).setCell ⟨q, 1, none⟩ (.int .i64 r9)).setCell ⟨q, 2, none⟩ (.int .i64 l9))) :=
              ⟨A9, R9, c9, r9, l9, put3 HV0.out _ _ _, trivial, below_put3 B3 hqk _ _ _⟩
            clear p0 p1 p2 lp hVF
            refine alT fun K hK => ?_
            go_wp2
            refine hK.out _ _ (below_put3 B3 hqk _ _ _) ?_
            clear hK K
            refine tree_done ?_
            go_wp2
            go_meet
            case rel => exact ⟨_, rfl, rfl, HF⟩
          · intro K hK
            go_wp2
            refine hK.out _ _ (B1.alloc B1.size _) ?_
            clear hK K
            obtain ⟨V, hV⟩ : ∃ V, k7.alloc (.cells #[.slice none 0 0, .int .i64 0, .int .i64 0] 26) = V := ⟨_, rfl⟩
            obtain ⟨q, hq⟩ : ∃ q, k7.heap.size = q := ⟨_, rfl⟩
            have HV0 : Hid (Whole V q 26 [.slice none 0 0, .int .i64 0, .int .i64 0]) := by unfold Hid; rw [← hV, ← hq]; exact Whole.new k7 26 [.slice none 0 0, .int .i64 0, .int .i64 0]
            have B2 : Below k6.heap.size k6 V := by rw [← hV]; exact B1.alloc B1.size _
            have hqk : k6.heap.size ≤ q := by rw [← hq]; exact B1.size
            have HDV : Hid (DfOk w7.heap.size 87 95 .i64 V a' A8 c8) := by unfold Hid; rw [← hV]; exact HD8.out.below (new1W _ _)
            rw [hV, hq]
            clear hV hq
            refine alT fun K hK => ?_
            go_wp2_with fail
            refine (rdapply_all A5 cap5 (HLk.out.below B2) HOG.out _ _ _ a' A8 n3 c8 HDV.out.sps HDV.out.cle HN3.out HM3.out HLBa.out).mono ?_
            rintro e k8 ⟨hb, A9, R9, c9, r9, l9, rfl, hz⟩
            rw [HEr.out] at hz ⊢
            have B3 : Below k6.heap.size k6 k8 := B2.trans (hb.mono B2.size)
            have HZ : Hid True := trivial
            have HV1 := hide (HV0.out.later hb)
            clear hb hz
            go_wp2
            refine hK.out _ _ B3 ?_
            clear hK K
            iterate 3 refine stT (h := ?_)
            have hVF := HV1.out.frozen
            obtain ⟨p0, p1, p2, lp⟩ := cells3 HV1.out
            refine alT fun K hK => ?_
            go_wp2
            refine hK.out _ _ (below_put3 B3 hqk _ _ _) ?_
            clear hK K
            have HF : Hid (∃ (A9x : Option Addr) (R9x c9x : Nat) (r9x l9x : Int), Whole (((k8.setCell ⟨q, 0, none⟩ (.slice A9 R9 c9)).setCell ⟨q, 1, none⟩ (.int .i64 r9)).setCell ⟨q, 2, none⟩ (.int .i64 l9)) q 26 [.slice A9x R9x c9x, .int .i64 r9x, .int .i64 l9x] ∧ True ∧ Below k6.heap.size k6 (((k8.setCell ⟨q, 0, none⟩ (.slice A9 R9 c9)).setCell ⟨q, 1, none⟩ (.int .i64 r9)).setCell ⟨q, 2, none⟩ (.int .i64 l9))) :=
              ⟨A9, R9, c9, r9, l9, put3 HV1.out _ _ _, trivial, below_put3 B3 hqk _ _ _⟩
            clear p0 p1 p2 lp hVF
            refine alT fun K hK => ?_
            go_wp2
            refine hK.out _ _ (below_put3 B3 hqk _ _ _) ?_
            clear hK K
            refine tree_done ?_
            go_wp2
            go_meet
            case rel => exact ⟨_, rfl, rfl, HF⟩
        · intro K hK
          go_wp2
          refine hK.out _ _ (B0.alloc B0.size _) ?_
          clear hK K
          obtain ⟨V, hV⟩ : ∃ V, w7.alloc (.cells #[.slice none 0 0, .int .i64 0, .int .i64 0] 26) = V := ⟨_, rfl⟩
          obtain ⟨q, hq⟩ : ∃ q, w7.heap.size = q := ⟨_, rfl⟩
          have HV0 : Hid (Whole V q 26 [.slice none 0 0, .int .i64 0, .int .i64 0]) := by unfold Hid; rw [← hV, ← hq]; exact Whole.new w7 26 [.slice none 0 0, .int .i64 0, .int .i64 0]
          have B1 : Below k6.heap.size k6 V := by rw [← hV]; exact B0.alloc B0.size _
          have hqk : k6.heap.size ≤ q := by rw [← hq]; exact B0.size
          rw [hV, hq]
          clear hV hq
          refine alT fun K hK => ?_
          go_wp2_with fail
          refine (ldof_any 0 47 65 a' A4 n3 c4 V (HDk.out.below B1).sps HN3.out HM3.out HBDa.out HLBa.out).mono ?_
          rintro e k7 ⟨A8, c8, rfl, hd8, hb⟩
          rw [HN3.out]
          have B2 : Below k6.heap.size k6 k7 := B1.trans (hb.mono B1.size)
          have HD8 := hide hd8
          have HV1 := hide (HV0.out.later hb)
          clear hb hd8
          go_wp2
          refine hK.out _ _ B2 ?_
          clear hK K
          refine alT fun K hK => ?_
          go_wp2_with fail
          refine (rdapply_all A5 cap5 (HLk.out.below B2) HOG.out _ _ _ a' A8 n3 c8 HD8.out.sps HD8.out.cle HN3.out HM3.out HLBa.out).mono ?_
          rintro e k8 ⟨hb, A9, R9, c9, r9, l9, rfl, hz⟩
          rw [HEr.out] at hz ⊢
          have B3 : Below k6.heap.size k6 k8 := B2.trans (hb.mono B2.size)
          have HZ : Hid True := trivial
          have HV2 := hide (HV1.out.later hb)
          clear hb hz
          go_wp2
          refine hK.out _ _ B3 ?_
          clear hK K
          iterate 3 refine stT (h := ?_)
          have hVF := HV2.out.frozen
          obtain ⟨p0, p1, p2, lp⟩ := cells3 HV2.out
          refine alT fun K hK => ?_
          go_wp2
          refine hK.out _ _ (below_put3 B3 hqk _ _ _) ?_
          clear hK K
          have HF : Hid (∃ (A9x : Option Addr) (R9x c9x : Nat) (r9x l9x : Int), Whole (((k8.setCell ⟨q, 0, none⟩ (.slice A9 R9 c9)).setCell ⟨q, 1, none⟩ (.int .i64 r9)).setCell ⟨q, 2, none⟩ (.int .i64 l9)) q 26 [.slice A9x R9x c9x, .int .i64 r9x, .int .i64 l9x] ∧ True ∧ Below k6.heap.size k6 (((k8.setCell ⟨q, 0, none⟩ (.slice A9 R9 c9)).setCell ⟨q, 1, none⟩ (.int .i64 r9)).setCell ⟨q, 2, none⟩ (.int .i64 l9))) :=
            ⟨A9, R9, c9, r9, l9, put3 HV2.out _ _ _, trivial, below_put3 B3 hqk _ _ _⟩
          clear p0 p1 p2 lp hVF
          refine alT fun K hK => ?_
          go_wp2
          refine hK.out _ _ (below_put3 B3 hqk _ _ _) ?_
          clear hK K
          refine tree_done ?_
          go_wp2
          go_meet
          case rel => exact ⟨_, rfl, rfl, HF⟩
      case rest =>
        obtain ⟨P8, rfl, rfl, HH⟩ := hcut
        obtain ⟨A9, R9, c9, r9, l9, hw8, hz8, hb8⟩ := HH.out
        clear HH
        have HB8 := hide hb8
        have HBw8 := hide (HBk.out.trans (hb8.mono HBk.out.size))
        clear hz8 hb8 hw8
        go_wp2_with fail
        refine (dknown_any wc (HS.out.below HBw8.out)).mono ?_
        rintro e v1 ⟨rfl, hb1⟩
        have HV1 := hide hb1
        clear hb1
        have HBf := hide (HB8.out.trans (HV1.out.mono HB8.out.size))
        obtain ⟨f0, f1, f2, lf⟩ := cells3 (HPk.out.later HBf.out)
        go_wp2_with fail
        refine (lgsame_yes (HGk.out.later HBf.out) HOG.out A5 cap5 (HLk.out.below HBf.out)).mono ?_
        rintro e v4 ⟨rfl, hb4⟩
        have HV4 := hide (HBw8.out.trans ((HV1.out.trans (hb4.mono HV1.out.size)).mono HBw8.out.size))
        clear hb4 f0 f1 f2 lf
        go_wp2
        go_ret
        exact ⟨rfl, HV4.out⟩
  · obtain ⟨W2, hW2⟩ : ∃ W2, k2.alloc (.cells #[.slice none 0 0, .int .i64 0, .int .i64 0] 26) = W2 := ⟨_, rfl⟩
    have hb2 : Below k2.heap.size k2 W2 := by rw [← hW2]; exact new1W _ _
    have hb12 : Below W1.heap.size W1 W2 := hb.trans (hb2.mono hb.size)
    have HX2 := hide (HX1.out.later hb12)
    have HD2 := hide (HD1.out.below hb12)
    have HB2 := hide (HB1.out.trans (hb12.mono HB1.out.size))
    have HW2 := hide hW2
    clear hb hW2 hb2 hb12
    go_upto_region 3 with fail
    rw [HW2.out]
    refine rgH (fun w' => Below W2.heap.size W2 w') [(true, 0), (true, 2), (false, 1), (false, 3), (false, 4), (false, 5)] ((Below.refl _ _).drewN 1) ?_
    refine stH (hy := fun w hS => by obtain ⟨f0, f1, f2, f3, f4, -⟩ := cells5 (HX2.out.later hS); go_simp <;> with_reducible rfl) (h := ?_)
    refine stH (hy := fun w hS => by obtain ⟨f0, f1, f2, f3, f4, -⟩ := cells5 (HX2.out.later hS); go_simp <;> with_reducible rfl) (h := ?_)
    refine alH fun K hK => ?_
    go_wp2_with fail
    refine (dfcheck_any 0 47 65 a' A4 n3 c4 W2.drew (HD2.out.below ((Below.refl _ _).drewN 1)).sps (Nat.zero_le _) HN3.out HM3.out).mono ?_
    rintro e k3 ⟨rfl, hb⟩
    rw [HE.out]
    have B1 : Below W2.heap.size W2 k3 := ((Below.refl W2.heap.size W2).drewN 1).trans hb
    clear hb
    go_wp2
    refine hK.out _ _ (B1) ?_
    clear hK K
    refine alH fun K hK => ?_
    go_wp2_with fail
    refine (ldof_any 0 47 65 a' A4 n3 c4 k3 (HD2.out.below B1).sps HN3.out HM3.out HBDa.out HLBa.out).mono ?_
    rintro e k4 ⟨A6, c6, rfl, hd6, hb⟩
    have B2 : Below W2.heap.size W2 k4 := B1.trans (hb.mono B1.size)
    have HD6 := hide hd6
    rw [HN3.out]
    clear hb hd6
    go_wp2
    refine hK.out _ _ (B2) ?_
    clear hK K
    refine alH fun K hK => ?_
    go_wp2_with fail
    refine (rdcheck_any _ _ _ a' A6 n3 c6 k4 HD6.out.sps HD6.out.cle HN3.out HM3.out).mono ?_
    rintro e k5 ⟨rfl, hb⟩
    rw [HE.out]
    have B3 : Below W2.heap.size W2 k5 := B2.trans (hb.mono B2.size)
    clear hb
    go_wp2
    refine hK.out _ _ (B3) ?_
    clear hK K
    refine alH fun K hK => ?_
    go_wp2
    refine hK.out _ _ (B3) ?_
    clear hK K
    refine chainH_nil ?_
    have HX3 := hide (HX2.out.later B3)
    have HB3 := hide (HB2.out.trans (B3.mono HB2.out.size))
    clear B1 B2 B3
    obtain ⟨f0, f1, f2, f3, f4, lf⟩ := cells5 HX3.out
    go_wp2_with fail
    refine (dfapply_nil a' A4 n3 c4 k5).mono ?_
    rintro e k6 ⟨rfl, hb6⟩
    have HBk := hide (HB3.out.trans (hb6.mono HB3.out.size))
    clear f0 f1 f2 f3 f4 lf hb6
    go_wp2_with fail
    refine (dknown_any k6 (HS.out.below HBk.out)).mono ?_
    rintro e v1 ⟨rfl, hb1⟩
    have HV1 := hide (HBk.out.trans (hb1.mono HBk.out.size))
    clear hb1
    go_wp2
    go_ret
    exact ⟨rfl, HV1.out⟩
end Go.Proofs.YtoddfaoifnkhlaaGreatDoor
