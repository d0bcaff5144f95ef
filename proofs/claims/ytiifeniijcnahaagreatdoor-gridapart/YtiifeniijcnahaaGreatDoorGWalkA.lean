/-
  The walk of the law GridApart.
-/
import Derived.Test.YtiifeniijcnahaaGreatDoorGGreat
namespace Go.Proofs.YtiifeniijcnahaaGreatDoor
set_option maxRecDepth 100000
open Go.ChangeShapes Go.WideShapes Go.ChangeAt Go.RowKit
set_option linter.unusedVariables false

theorem One.box {w0 w w' : World} {G L M R C : Nat} {g : Gd} {Q : Nat} {A : Option Addr} {cap : Nat} (h : One w0 w G L M R C g Q A cap) {q : Nat} {t : TypeId} {l : List Value} (h1 : t ≠ 93) (h2 : t ≠ 41) (h3 : t ≠ 40) (hp : Whole w q t l) (ht : Trn G L M w w') (hq : q ≠ Q) (A' : Option Addr) (R' cap' : Nat) (g' : Gd) :
    Whole (((w'.setCell ⟨Q, 0, none⟩ (.slice A' R' cap')).setCell ⟨Q, 1, none⟩ (.int .i64 (g'.row : Int))).setCell ⟨Q, 2, none⟩ (.int .i64 (g'.col : Int))) q t l := by
  obtain ⟨cap0, ps0, room0, more0, ha⟩ := h.p.grd
  exact (ht.whole hp (hp.ne ha.top h1) (hp.ne ha.lines h2) (hp.ne ha.piece h3)).same (heap_put3 _ _ _ _ _ _ hq)
/-- Another grid turned, whose blocks are apart. -/
theorem One.away {w0 w w' : World} {G L M R C : Nat} {g : Gd} {Q : Nat} {A : Option Addr} {cap : Nat} (h : One w0 w G L M R C g Q A cap) {G' L' M' R' C' : Nat} {g' : Gd} (h' : Grd w G' L' M' R' C' g') (hR : 1 ≤ R') (ht : Trn G' L' M' w w') (hne : G ≠ G' ∧ L ≠ L' ∧ M ≠ M') (hB : w0.heap.size ≤ G' ∧ w0.heap.size ≤ L' ∧ w0.heap.size ≤ M') : One w0 w' G L M R C g Q A cap :=
  ⟨h.p.far h' ht hne, h.sp.turn h' hR ht, ht.below h.bel h.bel.size hB.1 hB.2.1 hB.2.2, h.pos⟩
/-- Fitted to its own size a grid is the same. -/
theorem fit_self {g : Gd} {R C : Nat} (h : GOk g R C) : fitG g R C = g := by
  have e1 : gtab R (fitAtG g.ls C) = g.ls := by
    refine (gtab_is h.len fun i hi => ?_).symm
    rw [fitAtG_is]
    obtain ⟨hl, hr, -⟩ := h.each i hi
    have e2 : fitTab (lAt g.ls i) (C : Int) = lAt g.ls i := by
      unfold fitTab
      rw [lenN_nat C h.c2]
      conv => rhs; rw [← tab_self (lAt g.ls i), hl]
      exact tab_eq fun j hj => by rw [if_pos (by omega)]
    unfold fitC
    rw [e2, mend_right hr]
  unfold fitG
  rw [e1, nearN_self _ _ h.row, nearN_self _ _ h.col]
set_option maxHeartbeats 8000000 in
theorem gridApart_walk (rows cols : Int) (A0 : Option Addr) (len cap0 : Nat) (a0 : Ac) (w : World) (hr : (Lit.int .i64 rows).wf = true) (hc : (Lit.int .i64 cols).wf = true) (ha : Acts w A0 len) (hac0 : AcOk w a0) (hS : Spans w) :
    Calls Tryz.prog 4 #[.int .i64 rows, .int .i64 cols, .slice A0 len cap0, .agg #[.int .i64 a0.k, .int .i64 a0.r, .int .i64 a0.c, .int .i64 a0.t, .int .i32 a0.xr, .int .i32 a0.xm, .int .i32 a0.xn, .int .u8 (a0.xd : Int), .int .u8 (a0.xf : Int), .int .u8 (a0.xg : Int), .int .u8 (a0.xb : Int), .int .i32 a0.m, .int .u8 (a0.pf : Int), .int .u8 (a0.pg : Int), .int .u8 (a0.pb : Int), .slice a0.Al a0.nl a0.cl]] w fun e w' => e = .returned (.bool true) ∧ Below w.heap.size w w' := by
  have HA := hide ha
  have HAC0 := hide hac0
  have HS := hide hS
  obtain ⟨sr, hsr⟩ : ∃ sr, smallI rows = sr := ⟨_, rfl⟩
  obtain ⟨sc, hsc⟩ : ∃ sc, smallI cols = sc := ⟨_, rfl⟩
  have HSR := hide hsr
  have HSC := hide hsc
  obtain ⟨W0, hW0⟩ : ∃ W0, w.alloc (.cells #[.int .i64 a0.k, .int .i64 a0.r, .int .i64 a0.c, .int .i64 a0.t, .int .i32 a0.xr, .int .i32 a0.xm, .int .i32 a0.xn, .int .u8 (a0.xd : Int), .int .u8 (a0.xf : Int), .int .u8 (a0.xg : Int), .int .u8 (a0.xb : Int), .int .i32 a0.m, .int .u8 (a0.pf : Int), .int .u8 (a0.pg : Int), .int .u8 (a0.pb : Int), .slice a0.Al a0.nl a0.cl] 43) = W0 := ⟨_, rfl⟩
  have HB0 : Hid (Below w.heap.size w W0) := by unfold Hid; rw [← hW0]; exact new1W _ _
  have HY0 : Hid (Whole W0 w.heap.size 43 [.int .i64 a0.k, .int .i64 a0.r, .int .i64 a0.c, .int .i64 a0.t, .int .i32 a0.xr, .int .i32 a0.xm, .int .i32 a0.xn, .int .u8 (a0.xd : Int), .int .u8 (a0.xf : Int), .int .u8 (a0.xg : Int), .int .u8 (a0.xb : Int), .int .i32 a0.m, .int .u8 (a0.pf : Int), .int .u8 (a0.pg : Int), .int .u8 (a0.pb : Int), .slice a0.Al a0.nl a0.cl]) := by unfold Hid; rw [← hW0]; exact Whole.new w 43 [.int .i64 a0.k, .int .i64 a0.r, .int .i64 a0.c, .int .i64 a0.t, .int .i32 a0.xr, .int .i32 a0.xm, .int .i32 a0.xn, .int .u8 (a0.xd : Int), .int .u8 (a0.xf : Int), .int .u8 (a0.xg : Int), .int .u8 (a0.xb : Int), .int .i32 a0.m, .int .u8 (a0.pf : Int), .int .u8 (a0.pg : Int), .int .u8 (a0.pb : Int), .slice a0.Al a0.nl a0.cl]
  have HS0 := hide (hS.below HB0.out)
  have HW0 := hide hW0
  clear ha hac0 hS hr hc hsr hsc hW0
  by_cases hs : sizeN sr sc
  · obtain ⟨R0, C0, rfl, rfl, q1, q2, q3, q4⟩ := sizeN_small hs
    clear hs
    go_enter Tryz.func4, Tryz.ntmps4
    go_wp2_with fail
    rw [HW0.out]
    refine (small_any rows W0).mono ?_
    rintro e w1 ⟨rfl, rfl⟩
    rw [HSR.out]
    go_wp2_with fail
    refine (small_any cols W0).mono ?_
    rintro e w1 ⟨rfl, rfl⟩
    rw [HSC.out]
    go_wp2_with fail
    refine (gnew_yes R0 C0 q1 q2 q3 q4 W0).mono ?_
    rintro e w1 ⟨G1, L1, M1, rfl, hg, hb, n1, n2, n3⟩
    have HG1 := hide hg
    have HB1 := hide (HB0.out.trans (hb.mono HB0.out.size))
    have HY1 := hide (HY0.out.later hb)
    have hYlt := HY0.out.lt
    have hs1 := hb.size
    have HN : Hid (w.heap.size ≤ G1 ∧ w.heap.size ≤ L1 ∧ w.heap.size ≤ M1) := by unfold Hid; have := HB0.out.size; omega
    clear hg hb n1 n2 n3
    go_wp2_with fail
    refine (rgnew_v R0 C0 q1 q2 w1).mono ?_
    rintro e w3 ⟨c1, cap3, rfl, hl, hb, -⟩
    obtain ⟨Q11, hQ⟩ : ∃ Q11, w3.heap.size = Q11 := ⟨_, rfl⟩
    obtain ⟨W5, hW5⟩ : ∃ W5, w3.alloc (.cells #[.slice (some ⟨c1, 0, none⟩) R0 cap3, .int .i64 0, .int .i64 0] 32) = W5 := ⟨_, rfl⟩
    have hb5 : Below w1.heap.size w1 W5 := by rw [← hW5]; exact hb.alloc hb.size _
    have HB5 := hide (HB1.out.trans (hb5.mono HB1.out.size))
    have hq3 : w1.heap.size ≤ Q11 := by rw [← hQ]; exact hb.size
    have hx3 : Whole W5 Q11 32 [.slice (some ⟨c1, 0, none⟩) R0 cap3, .int .i64 0, .int .i64 0] := by rw [← hW5, ← hQ]; exact Whole.new w3 32 [.slice (some ⟨c1, 0, none⟩) R0 cap3, .int .i64 0, .int .i64 0]
    have hl5 : Lns W5 (some ⟨c1, 0, none⟩) (newG R0 C0).ls := by rw [← hW5]; exact hl.alloc _
    have hok := GOk.new (R := R0) (C := C0) q1 q2 q3 q4
    have HX00 : Hid (One w W5 G1 L1 M1 R0 C0 (newG R0 C0) Q11 (some ⟨c1, 0, none⟩) cap3) := ⟨⟨HG1.out.later hb5, hok, hx3, hl5, HN.out.1, HN.out.2.1, HN.out.2.2, by have := HB1.out.size; omega⟩, HS.out.below HB5.out, HB5.out, HS.out.size⟩
    have HP00 := hide (HY1.out.later hb5)
    have hQP : Hid (w.heap.size ≠ Q11) := by unfold Hid; omega
    have HW5 := hide hW5
    have HQ := hide hQ
    clear hl hb hb5 hW5 hQ hx3 hl5 hok hq3
    go_wp2
    rw [HW5.out, HQ.out]
    go_loopw [9, 12] (fun gp i wr => ∃ (k : Nat) (g : Gd) (R C G L M : Nat) (A : Option Addr) (cap : Nat), k ≤ len ∧ i = .int .i64 k ∧ gp = .pointer (some ⟨G, 0, none⟩) ∧ One w wr G L M R C g Q11 A cap ∧ Whole wr w.heap.size 43 [.int .i64 a0.k, .int .i64 a0.r, .int .i64 a0.c, .int .i64 a0.t, .int .i32 a0.xr, .int .i32 a0.xm, .int .i32 a0.xn, .int .u8 (a0.xd : Int), .int .u8 (a0.xf : Int), .int .u8 (a0.xg : Int), .int .u8 (a0.xb : Int), .int .i32 a0.m, .int .u8 (a0.pf : Int), .int .u8 (a0.pg : Int), .int .u8 (a0.pb : Int), .slice a0.Al a0.nl a0.cl]) (fun _ i _ => len - (intOf i).toNat)
    case atStart => exact ⟨0, _, _, _, _, _, _, _, _, Nat.zero_le _, rfl, rfl, HX00.out, HP00.out⟩
    case round =>
      obtain ⟨k, g, R, C, G, L, M, A, cap, hk, rfl, rfl, hx, hp⟩ := hrel
      have HX1 := hide hx
      have HPk := hide hp
      clear hx hp
      by_cases hlt : k < len
      · by_cases h40 : k < 40
        · obtain ⟨b, off, a, rfl, lb, hac, f0, f1, f2, f3, f4, f5, f6, f7, f8, f9, g0, g1, g2, g3, g4, g5⟩ := (HA.out.below HX1.out.bel).at (i := k) hlt
          have HAC := hide hac
          obtain ⟨x0, x1, x2, lx⟩ := cells3 HX1.out.p.q
          clear hac
          go_wp2
          refine wp_region_chainL (fun w' => Below wr.heap.size wr w') 6 [(2, 0), (2, 2), (2, 3), (2, 4), (0, 1), (1, 5), (3, 6), (3, 7), (2, 8), (2, 11), (2, 9), (2, 10), (3, 12)] (by kernel_rfl) (by kernel_rfl) (by kernel_rfl) (fun _ _ _ _ _ h => h) ?_ ?_
          · exact (Below.refl _ _).drewN 1
          refine chainL_pure (v := ?_) (by simp only [List.getElem?_toArray, List.getElem?_cons_zero]; rfl) (by rfl) (fun w => ?_) ?_
          rotate_left
          · go_simp <;> with_reducible rfl
          simp only [Act.put, List.setIfInBounds_toArray, List.set_cons_zero, List.set_cons_succ]
          refine chainL_pure (v := ?_) (by simp only [List.getElem?_toArray, List.getElem?_cons_zero, List.getElem?_cons_succ]; rfl) (by rfl) (fun w => ?_) ?_
          rotate_left
          · go_simp <;> with_reducible rfl
          simp only [Act.put, List.setIfInBounds_toArray, List.set_cons_zero, List.set_cons_succ]
          refine chainL_pure (v := ?_) (by simp only [List.getElem?_toArray, List.getElem?_cons_zero, List.getElem?_cons_succ]; rfl) (by rfl) (fun w => ?_) ?_
          rotate_left
          · go_simp <;> with_reducible rfl
          simp only [Act.put, List.setIfInBounds_toArray, List.set_cons_zero, List.set_cons_succ]
          refine chainL_pure (v := ?_) (by simp only [List.getElem?_toArray, List.getElem?_cons_zero, List.getElem?_cons_succ]; rfl) (by rfl) (fun w => ?_) ?_
          rotate_left
          · go_simp <;> with_reducible rfl
          simp only [Act.put, List.setIfInBounds_toArray, List.set_cons_zero, List.set_cons_succ]
          refine chainL_take (v := ?_) (by simp only [List.getElem?_toArray, List.getElem?_cons_zero, List.getElem?_cons_succ]; rfl) (by rfl) (fun w hS => ?_) ?_
          rotate_left
          · obtain ⟨d0, d1, d2, -⟩ := cells3 (HX1.out.p.q.later hS); go_simp <;> with_reducible rfl
          simp only [Act.put, List.setIfInBounds_toArray, List.set_cons_zero, List.set_cons_succ]
          refine chainL_alone (by simp only [List.getElem?_toArray, List.getElem?_cons_zero, List.getElem?_cons_succ]; rfl) ?_
          intro K hK
          go_wp2
          refine hK.out _ _ ((Below.refl _ _).drewN 1) ?_
          clear hK K
          refine chainL_late (by simp only [List.getElem?_toArray, List.getElem?_cons_zero, List.getElem?_cons_succ]; rfl) ?_
          intro K hK
          go_wp2_with fail
          refine (do_any HX1.out.drew.p.grd HX1.out.p.ok A cap HX1.out.drew.p.lns HX1.out.drew.sp a (HAC.out.below ((Below.refl _ _).drewN 1))).mono ?_
          rintro e k1 ⟨g', R', C', G', L', M', A', cap', rfl, hg, hl, hok, ht, hG, hL, hM⟩
          have HPn := hide (HX1.out.drew.box (by decide) (by decide) (by decide) HPk.out.drew ht hQP.out A' R' cap' g')
          have HN := hide (HX1.out.drew.next hg hl hok ht hG hL hM (cap' := cap'))
          have HQ := hide (HX1.out.drew.p.turned ht)
          clear hg hl hok ht hG hL hM f0 f1 f2 f3 f4 f5 f6 f7 f8 f9 g0 g1 g2 g3 g4 g5 x0 x1 x2 lx lb
          obtain ⟨x0, x1, x2, lx⟩ := cells3 HQ.out
          have hxf := HQ.out.frozen
          go_wp2
          refine hK.out _ _ ?_
          clear hK K
          refine chainL_late (by simp only [List.getElem?_toArray, List.getElem?_cons_zero, List.getElem?_cons_succ]; rfl) ?_
          intro K hK
          go_wp2
          refine hK.out _ _ ?_
          clear hK K
          refine chainL_pure (v := ?_) (by simp only [List.getElem?_toArray, List.getElem?_cons_zero, List.getElem?_cons_succ]; rfl) (by rfl) (fun w => ?_) ?_
          rotate_left
          · go_simp <;> with_reducible rfl
          simp only [Act.put, List.setIfInBounds_toArray, List.set_cons_zero, List.set_cons_succ]
          refine chainL_pure (v := ?_) (by simp only [List.getElem?_toArray, List.getElem?_cons_zero, List.getElem?_cons_succ]; rfl) (by rfl) (fun w => ?_) ?_
          rotate_left
          · go_simp <;> with_reducible rfl
          simp only [Act.put, List.setIfInBounds_toArray, List.set_cons_zero, List.set_cons_succ]
          refine chainL_pure (v := ?_) (by simp only [List.getElem?_toArray, List.getElem?_cons_zero, List.getElem?_cons_succ]; rfl) (by rfl) (fun w => ?_) ?_
          rotate_left
          · go_simp <;> with_reducible rfl
          simp only [Act.put, List.setIfInBounds_toArray, List.set_cons_zero, List.set_cons_succ]
          refine chainL_pure (v := ?_) (by simp only [List.getElem?_toArray, List.getElem?_cons_zero, List.getElem?_cons_succ]; rfl) (by rfl) (fun w => ?_) ?_
          rotate_left
          · go_simp <;> with_reducible rfl
          simp only [Act.put, List.setIfInBounds_toArray, List.set_cons_zero, List.set_cons_succ]
          refine chainL_late (by simp only [List.getElem?_toArray, List.getElem?_cons_zero, List.getElem?_cons_succ]; rfl) ?_
          intro K hK
          go_wp2
          refine hK.out _ _ ?_
          clear hK K
          refine chainL_nil ?_
          clear x0 x1 x2 lx hxf HQ
          go_wp2
          go_roundw
          case rel => exact ⟨k + 1, _, _, _, _, _, _, _, _, hlt, by go_num, by rfl, HN.out, HPn.out⟩
          case measure => simp [intOf]; omega
        · have hR1 := HX1.out.p.ok.r1
          have hR2 := HX1.out.p.ok.r2
          have hC1 := HX1.out.p.ok.c1
          have hC2 := HX1.out.p.ok.c2
          have HOK := hide HX1.out.p.ok
          have hB := HX1.out.bel.size
          go_wp2_with fail
          refine (copy_any HX1.out.p.grd hR1 hR2 hC1 hC2).mono ?_
          rintro e v1 ⟨Gc, Lc, Mc, rfl, hg, hb, n1, n2, n3⟩
          have HC1 := hide hg
          have HD1 := hide (HX1.out.later hb)
          have HA1 := hide (HPk.out.later hb)
          have ltG := HX1.out.p.grd.ltG
          have ltL := HX1.out.p.grd.ltL
          have ltM := HX1.out.p.grd.ltM
          have HNE : Hid (G ≠ Gc ∧ L ≠ Lc ∧ M ≠ Mc) := by unfold Hid; omega
          have HNB : Hid (w.heap.size ≤ Gc ∧ w.heap.size ≤ Lc ∧ w.heap.size ≤ Mc) := by unfold Hid; omega
          clear hg hb n1 n2 n3 ltG ltL ltM
          go_wp2_with fail
          refine (gof_any HD1.out.p.grd HOK.out).mono ?_
          rintro e v2 ⟨A5, cap5, rfl, hl, hb⟩
          obtain ⟨Q14, hQ14⟩ : ∃ Q14, v2.heap.size = Q14 := ⟨_, rfl⟩
          obtain ⟨V2, hV2⟩ : ∃ V2, v2.alloc (.cells #[.slice A5 R cap5, .int .i64 (g.row : Int), .int .i64 (g.col : Int)] 32) = V2 := ⟨_, rfl⟩
          have hbv : Below v1.heap.size v1 V2 := by rw [← hV2]; exact hb.alloc hb.size _
          have HD2 := hide (HD1.out.later hbv)
          have HC2 := hide (HC1.out.later hbv)
          have HA2 := hide (HA1.out.later hbv)
          have hq14 : w.heap.size ≤ Q14 := by rw [← hQ14]; exact Nat.le_trans HD1.out.bel.size hb.size
          have HW2 : Hid (Whole V2 Q14 32 [.slice A5 R cap5, .int .i64 (g.row : Int), .int .i64 (g.col : Int)]) := by unfold Hid; rw [← hV2, ← hQ14]; exact Whole.new v2 32 [.slice A5 R cap5, .int .i64 (g.row : Int), .int .i64 (g.col : Int)]
          have HL2 : Hid (Lns V2 A5 g.ls) := by unfold Hid; rw [← hV2]; exact hl.alloc _
          have HE2 : Hid (One w V2 G L M R C g Q14 A5 cap5) := ⟨⟨HD2.out.p.grd, HOK.out, HW2.out, HL2.out, HD2.out.p.hG, HD2.out.p.hL, HD2.out.p.hM, hq14⟩, HD2.out.sp, HD2.out.bel, HD2.out.pos⟩
          have hbv2 : Below v1.heap.size v1 v2 := hb
          have HA2v := hide (HA1.out.later hb)
          have HV2 := hide hV2
          have HQ14 := hide hQ14
          clear hl hb hbv hV2 hQ14 hbv2
          obtain ⟨s0, s1, s2, s3, s4, s5, s6, s7, s8, s9, t0, t1, t2, t3, t4, t5, ls⟩ := cells16 HA2v.out
          go_wp2_with fail
          rw [HV2.out]
          refine (do_any HC2.out HOK.out A5 cap5 HL2.out HE2.out.sp a0 (HAC0.out.below HE2.out.bel)).mono ?_
          rintro e v3 ⟨g', R', C', G', L', M', A', cap', rfl, hg, hl, hok, ht, hG, hL, hM⟩
          have HE3 := hide (HE2.out.away HC2.out (by omega) ht HNE.out HNB.out)
          clear hg hl hok ht hG hL hM
          clear s0 s1 s2 s3 s4 s5 s6 s7 s8 s9 t0 t1 t2 t3 t4 t5 ls
          go_wp2_with fail
          refine (gline_any HE3.out.p.grd 0 (by unfold hasG; omega) (by omega)).mono ?_
          rintro e v4 ⟨v9, rfl, hown⟩
          rw [show (0 : Int).toNat = 0 from rfl] at hown
          have HNL := hide (HOK.out.each 0 hR1).1
          obtain ⟨g7, c7, rfl⟩ : ∃ g7 c7, v9 = .slice (some ⟨g7, 0, none⟩) C c7 := by
            rcases hown.own.2 with ⟨-, h0⟩ | ⟨g5, c5, cur, hv, -⟩
            · rw [HNL.out] at h0; omega
            · exact ⟨g5, c5, by rw [hv, HNL.out]⟩
          have HO0 := hide hown
          clear hown
          go_wp2
          go_loopw [16] (fun i wr => ∃ (k : Nat) (cs : List Cel), k ≤ C ∧ i = .int .i64 k ∧ cs.length = C ∧ OwnC 40 .i32 v3.heap.size v3 wr (.slice (some ⟨g7, 0, none⟩) C c7) cs) (fun i _ => C - (intOf i).toNat)
          case atStart => exact ⟨0, _, Nat.zero_le _, rfl, HNL.out, HO0.out⟩
          case round =>
            obtain ⟨k, cs, hk, rfl, hcs, hown⟩ := hrel
            have HO := hide hown
            have HCS := hide hcs
            by_cases hlt : k < C
            · have hfz : ∀ i, wr.frozen? ⟨g7, i, none⟩ = false := by
                rcases hown.own.2 with ⟨h0, -⟩ | ⟨g, cap, cur, hv, -, hh, -⟩
                · cases h0
                · cases hv; intro i; simp [World.frozen?, hh]
              obtain ⟨A6, c6, hv6, hc6, -⟩ := hown.form
              injection hv6 with z1 z2 z3
              subst z1
              clear z2 z3
              obtain ⟨⟨r9, m9, y9, d9, ⟨f9, z9, b9⟩⟩, hc9⟩ : ∃ q, cAt cs k = q := ⟨_, rfl⟩
              obtain ⟨e0, e1, e2, e3, e4, e5, e6, lv⟩ := hc6.sevenC k (by rw [HCS.out]; exact hlt) hc9
              simp only [Nat.zero_add] at e0 e1 e2 e3 e4 e5 e6
              clear hown hcs hc6 hc9
              go_wp2
              go_roundw
              case rel => exact ⟨k + 1, _, by omega, by go_num, by rw [List.length_set]; exact HCS.out, HO.out.put HCS.out (k * 7) k rfl hlt ⟨122, 0, 0, 1, ⟨0, 0, 0⟩⟩⟩
              case measure => simp [intOf]; omega
            · clear hown hcs
              have HE4 := hide (HE3.out.later HO.out.bel)
              have hfs := fit_self HOK.out
              obtain ⟨x0, x1, x2, lx⟩ := cells3 HE4.out.p.q
              go_wp2_with fail
              refine (rows_any HE4.out.p.grd).mono ?_
              rintro e u8 ⟨rfl, rfl⟩
              go_wp2_with fail
              refine (cols_any HE4.out.p.grd hR1).mono ?_
              rintro e u8 ⟨rfl, rfl⟩
              go_wp2_with fail
              refine (fit_yes HE4.out.p.grd hC2 R C hR1 hR2 hC1 hC2).mono ?_
              rintro e v6 ⟨Gf, Lf, Mf, rfl, hg, hb, n1, n2, n3⟩
              rw [hfs] at hg
              have HF5 := hide hg
              have HE5 := hide (HE4.out.later hb)
              have ltG := HE4.out.p.grd.ltG
              have ltL := HE4.out.p.grd.ltL
              have ltM := HE4.out.p.grd.ltM
              have hB4 := HE4.out.bel.size
              have HNE5 : Hid (G ≠ Gf ∧ L ≠ Lf ∧ M ≠ Mf) := by unfold Hid; omega
              have HNB5 : Hid (w.heap.size ≤ Gf ∧ w.heap.size ≤ Lf ∧ w.heap.size ≤ Mf) := by unfold Hid; omega
              clear hg hb n1 n2 n3 ltG ltL ltM x0 x1 x2 lx
              obtain ⟨x0, x1, x2, lx⟩ := cells3 HE5.out.p.q
              rw [HQ14.out]
              go_wp2_with fail
              refine (lgsame_yes HE5.out.p.grd HOK.out A5 cap5 HE5.out.p.lns).mono ?_
              rintro e v7 ⟨rfl, hb⟩
              have HE6 := hide (HE5.out.later hb)
              have HF6 := hide (HF5.out.later hb)
              clear hb x0 x1 x2 lx
              go_wp2_with fail
              refine (gsame_any HF6.out HE6.out.p.grd hR2 hR2 hC2).mono ?_
              rintro e v8 ⟨rfl, hb⟩
              rw [sameG_self]
              have HE7 := hide (HE6.out.later hb)
              have HF7 := hide (HF6.out.later hb)
              clear hb
              go_wp2_with fail
              refine (cols_any HF7.out hR1).mono ?_
              rintro e u8 ⟨rfl, rfl⟩
              go_wp2_with fail
              refine (gerase_any HF7.out hC2 HE7.out.sp 0 0 C 1 0 0).mono ?_
              rintro e v10 ⟨rfl, hg, ht⟩
              have HE8 := hide (HE7.out.away HF7.out hR1 ht HNE5.out HNB5.out)
              clear hg ht
              go_wp2_with fail
              refine (gknown_any v10 HE8.out.sp).mono ?_
              rintro e v11 ⟨rfl, hb⟩
              have HE9 := hide (HE8.out.later hb)
              clear hb
              obtain ⟨x0, x1, x2, lx⟩ := cells3 HE9.out.p.q
              go_wp2_with fail
              refine (lgsame_yes HE9.out.p.grd HOK.out A5 cap5 HE9.out.p.lns).mono ?_
              rintro e v12 ⟨rfl, hb⟩
              have HBZ := hide ((HE9.out.later hb).bel)
              clear hb x0 x1 x2 lx
              go_wp2
              go_ret
              exact ⟨rfl, HBZ.out⟩
      · have hR1 := HX1.out.p.ok.r1
        have hR2 := HX1.out.p.ok.r2
        have hC1 := HX1.out.p.ok.c1
        have hC2 := HX1.out.p.ok.c2
        have HOK := hide HX1.out.p.ok
        have hB := HX1.out.bel.size
        go_wp2_with fail
        refine (copy_any HX1.out.p.grd hR1 hR2 hC1 hC2).mono ?_
        rintro e v1 ⟨Gc, Lc, Mc, rfl, hg, hb, n1, n2, n3⟩
        have HC1 := hide hg
        have HD1 := hide (HX1.out.later hb)
        have HA1 := hide (HPk.out.later hb)
        have ltG := HX1.out.p.grd.ltG
        have ltL := HX1.out.p.grd.ltL
        have ltM := HX1.out.p.grd.ltM
        have HNE : Hid (G ≠ Gc ∧ L ≠ Lc ∧ M ≠ Mc) := by unfold Hid; omega
        have HNB : Hid (w.heap.size ≤ Gc ∧ w.heap.size ≤ Lc ∧ w.heap.size ≤ Mc) := by unfold Hid; omega
        clear hg hb n1 n2 n3 ltG ltL ltM
        go_wp2_with fail
        refine (gof_any HD1.out.p.grd HOK.out).mono ?_
        rintro e v2 ⟨A5, cap5, rfl, hl, hb⟩
        obtain ⟨Q14, hQ14⟩ : ∃ Q14, v2.heap.size = Q14 := ⟨_, rfl⟩
        obtain ⟨V2, hV2⟩ : ∃ V2, v2.alloc (.cells #[.slice A5 R cap5, .int .i64 (g.row : Int), .int .i64 (g.col : Int)] 32) = V2 := ⟨_, rfl⟩
        have hbv : Below v1.heap.size v1 V2 := by rw [← hV2]; exact hb.alloc hb.size _
        have HD2 := hide (HD1.out.later hbv)
        have HC2 := hide (HC1.out.later hbv)
        have HA2 := hide (HA1.out.later hbv)
        have hq14 : w.heap.size ≤ Q14 := by rw [← hQ14]; exact Nat.le_trans HD1.out.bel.size hb.size
        have HW2 : Hid (Whole V2 Q14 32 [.slice A5 R cap5, .int .i64 (g.row : Int), .int .i64 (g.col : Int)]) := by unfold Hid; rw [← hV2, ← hQ14]; exact Whole.new v2 32 [.slice A5 R cap5, .int .i64 (g.row : Int), .int .i64 (g.col : Int)]
        have HL2 : Hid (Lns V2 A5 g.ls) := by unfold Hid; rw [← hV2]; exact hl.alloc _
        have HE2 : Hid (One w V2 G L M R C g Q14 A5 cap5) := ⟨⟨HD2.out.p.grd, HOK.out, HW2.out, HL2.out, HD2.out.p.hG, HD2.out.p.hL, HD2.out.p.hM, hq14⟩, HD2.out.sp, HD2.out.bel, HD2.out.pos⟩
        have hbv2 : Below v1.heap.size v1 v2 := hb
        have HA2v := hide (HA1.out.later hb)
        have HV2 := hide hV2
        have HQ14 := hide hQ14
        clear hl hb hbv hV2 hQ14 hbv2
        obtain ⟨s0, s1, s2, s3, s4, s5, s6, s7, s8, s9, t0, t1, t2, t3, t4, t5, ls⟩ := cells16 HA2v.out
        go_wp2_with fail
        rw [HV2.out]
        refine (do_any HC2.out HOK.out A5 cap5 HL2.out HE2.out.sp a0 (HAC0.out.below HE2.out.bel)).mono ?_
        rintro e v3 ⟨g', R', C', G', L', M', A', cap', rfl, hg, hl, hok, ht, hG, hL, hM⟩
        have HE3 := hide (HE2.out.away HC2.out (by omega) ht HNE.out HNB.out)
        clear hg hl hok ht hG hL hM
        clear s0 s1 s2 s3 s4 s5 s6 s7 s8 s9 t0 t1 t2 t3 t4 t5 ls
        go_wp2_with fail
        refine (gline_any HE3.out.p.grd 0 (by unfold hasG; omega) (by omega)).mono ?_
        rintro e v4 ⟨v9, rfl, hown⟩
        rw [show (0 : Int).toNat = 0 from rfl] at hown
        have HNL := hide (HOK.out.each 0 hR1).1
        obtain ⟨g7, c7, rfl⟩ : ∃ g7 c7, v9 = .slice (some ⟨g7, 0, none⟩) C c7 := by
          rcases hown.own.2 with ⟨-, h0⟩ | ⟨g5, c5, cur, hv, -⟩
          · rw [HNL.out] at h0; omega
          · exact ⟨g5, c5, by rw [hv, HNL.out]⟩
        have HO0 := hide hown
        clear hown
        go_wp2
        go_loopw [16] (fun i wr => ∃ (k : Nat) (cs : List Cel), k ≤ C ∧ i = .int .i64 k ∧ cs.length = C ∧ OwnC 40 .i32 v3.heap.size v3 wr (.slice (some ⟨g7, 0, none⟩) C c7) cs) (fun i _ => C - (intOf i).toNat)
        case atStart => exact ⟨0, _, Nat.zero_le _, rfl, HNL.out, HO0.out⟩
        case round =>
          obtain ⟨k, cs, hk, rfl, hcs, hown⟩ := hrel
          have HO := hide hown
          have HCS := hide hcs
          by_cases hlt : k < C
          · have hfz : ∀ i, wr.frozen? ⟨g7, i, none⟩ = false := by
              rcases hown.own.2 with ⟨h0, -⟩ | ⟨g, cap, cur, hv, -, hh, -⟩
              · cases h0
              · cases hv; intro i; simp [World.frozen?, hh]
            obtain ⟨A6, c6, hv6, hc6, -⟩ := hown.form
            injection hv6 with z1 z2 z3
            subst z1
            clear z2 z3
            obtain ⟨⟨r9, m9, y9, d9, ⟨f9, z9, b9⟩⟩, hc9⟩ : ∃ q, cAt cs k = q := ⟨_, rfl⟩
            obtain ⟨e0, e1, e2, e3, e4, e5, e6, lv⟩ := hc6.sevenC k (by rw [HCS.out]; exact hlt) hc9
            simp only [Nat.zero_add] at e0 e1 e2 e3 e4 e5 e6
            clear hown hcs hc6 hc9
            go_wp2
            go_roundw
            case rel => exact ⟨k + 1, _, by omega, by go_num, by rw [List.length_set]; exact HCS.out, HO.out.put HCS.out (k * 7) k rfl hlt ⟨122, 0, 0, 1, ⟨0, 0, 0⟩⟩⟩
            case measure => simp [intOf]; omega
          · clear hown hcs
            have HE4 := hide (HE3.out.later HO.out.bel)
            have hfs := fit_self HOK.out
            obtain ⟨x0, x1, x2, lx⟩ := cells3 HE4.out.p.q
            go_wp2_with fail
            refine (rows_any HE4.out.p.grd).mono ?_
            rintro e u8 ⟨rfl, rfl⟩
            go_wp2_with fail
            refine (cols_any HE4.out.p.grd hR1).mono ?_
            rintro e u8 ⟨rfl, rfl⟩
            go_wp2_with fail
            refine (fit_yes HE4.out.p.grd hC2 R C hR1 hR2 hC1 hC2).mono ?_
            rintro e v6 ⟨Gf, Lf, Mf, rfl, hg, hb, n1, n2, n3⟩
            rw [hfs] at hg
            have HF5 := hide hg
            have HE5 := hide (HE4.out.later hb)
            have ltG := HE4.out.p.grd.ltG
            have ltL := HE4.out.p.grd.ltL
            have ltM := HE4.out.p.grd.ltM
            have hB4 := HE4.out.bel.size
            have HNE5 : Hid (G ≠ Gf ∧ L ≠ Lf ∧ M ≠ Mf) := by unfold Hid; omega
            have HNB5 : Hid (w.heap.size ≤ Gf ∧ w.heap.size ≤ Lf ∧ w.heap.size ≤ Mf) := by unfold Hid; omega
            clear hg hb n1 n2 n3 ltG ltL ltM x0 x1 x2 lx
            obtain ⟨x0, x1, x2, lx⟩ := cells3 HE5.out.p.q
            rw [HQ14.out]
            go_wp2_with fail
            refine (lgsame_yes HE5.out.p.grd HOK.out A5 cap5 HE5.out.p.lns).mono ?_
            rintro e v7 ⟨rfl, hb⟩
            have HE6 := hide (HE5.out.later hb)
            have HF6 := hide (HF5.out.later hb)
            clear hb x0 x1 x2 lx
            go_wp2_with fail
            refine (gsame_any HF6.out HE6.out.p.grd hR2 hR2 hC2).mono ?_
            rintro e v8 ⟨rfl, hb⟩
            rw [sameG_self]
            have HE7 := hide (HE6.out.later hb)
            have HF7 := hide (HF6.out.later hb)
            clear hb
            go_wp2_with fail
            refine (cols_any HF7.out hR1).mono ?_
            rintro e u8 ⟨rfl, rfl⟩
            go_wp2_with fail
            refine (gerase_any HF7.out hC2 HE7.out.sp 0 0 C 1 0 0).mono ?_
            rintro e v10 ⟨rfl, hg, ht⟩
            have HE8 := hide (HE7.out.away HF7.out hR1 ht HNE5.out HNB5.out)
            clear hg ht
            go_wp2_with fail
            refine (gknown_any v10 HE8.out.sp).mono ?_
            rintro e v11 ⟨rfl, hb⟩
            have HE9 := hide (HE8.out.later hb)
            clear hb
            obtain ⟨x0, x1, x2, lx⟩ := cells3 HE9.out.p.q
            go_wp2_with fail
            refine (lgsame_yes HE9.out.p.grd HOK.out A5 cap5 HE9.out.p.lns).mono ?_
            rintro e v12 ⟨rfl, hb⟩
            have HBZ := hide ((HE9.out.later hb).bel)
            clear hb x0 x1 x2 lx
            go_wp2
            go_ret
            exact ⟨rfl, HBZ.out⟩
  · have HNS := hide hs
    have HSZ : Hid (sizeB sr sc = false) := by unfold Hid sizeB; simpa using hs
    clear hs
    go_enter Tryz.func4, Tryz.ntmps4
    go_wp2_with fail
    rw [HW0.out]
    refine (small_any rows W0).mono ?_
    rintro e w1 ⟨rfl, rfl⟩
    rw [HSR.out]
    go_wp2_with fail
    refine (small_any cols W0).mono ?_
    rintro e w1 ⟨rfl, rfl⟩
    rw [HSC.out]
    go_wp2_with fail
    refine (gnew_no sr sc HNS.out W0).mono ?_
    rintro e w1 ⟨rfl, rfl⟩
    go_wp2_with fail
    refine (gknown_any W0 HS0.out).mono ?_
    rintro e w1 ⟨rfl, hb⟩
    have HB1 := hide (HB0.out.trans (hb.mono HB0.out.size))
    clear hb
    go_wp2_with fail
    refine (rsize_any sr sc w1).mono ?_
    rintro e w2 ⟨rfl, rfl⟩
    rw [HSZ.out]
    go_wp2
    go_ret
    exact ⟨rfl, HB1.out⟩
end Go.Proofs.YtiifeniijcnahaaGreatDoor
