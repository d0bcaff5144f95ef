/-
  Contract: a grid by acts, and the document's (the law's Made).
-/
import Derived.Test.YtoddfaoifnkhlaaGreatDoorDLaw
import Derived.Test.YtoddfaoifnkhlaaGreatDoorB14
import Derived.Test.YtoddfaoifnkhlaaGreatDoorB11
import Derived.Test.YtoddfaoifnkhlaaGreatDoorB12
namespace Go.Proofs.YtoddfaoifnkhlaaGreatDoor
set_option maxRecDepth 100000
open Go.ChangeShapes Go.WideShapes Go.ChangeAt Go.RowKit
set_option linter.unusedVariables false

theorem retGm {R : Ending → World → Prop} {a : Act} {w : World} {fn : Func} {s u : Nat} {q : Nat} {x0 x1 x2 v : Value} (hr : fn.results = #[.tmp u, .cell s 26]) (h4 : a.tmps.getD s undef = .pointer (some ⟨q, 0, none⟩)) (h5 : a.tmps.getD u undef = v) (hd : a.defers = [])
    (hw : Whole w q 26 [x0, x1, x2]) (hR : R (.returned (.tuple #[v, .agg #[x0, x1, x2]])) w) : bodyPost Tryz.prog fn R .ret a w := by
  have c0 : w.cell? ⟨q, 0, none⟩ = some x0 := hw.cell 0
  have c1 : w.cell? ⟨q, 1, none⟩ = some x1 := hw.cell 1
  have c2 : w.cell? ⟨q, 2, none⟩ = some x2 := hw.cell 2
  clear hw
  rw [Array.getD_eq_getD_getElem?] at h4 h5
  exact bodyPost_ret (v := .tuple #[v, .agg #[x0, x1, x2]]) (by simp [results, hr, h4, h5, c0, c1, c2, go_sem]) hd hR
/-- What Made gives: both grids, one and the same, new; or none. -/
def MadeG (w : World) (e : Ending) (w' : World) : Prop :=
  (∃ g R C G L M A cap, e = .returned (.tuple #[.pointer (some ⟨G, 0, none⟩), .agg #[.slice A R cap, .int .i64 ((g : Gd).row : Int), .int .i64 (g.col : Int)]]) ∧ NewGrd R C g w G L M w' ∧ Lns w' A g.ls ∧ GOk g R C) ∨
  (e = .returned (.tuple #[.pointer none, .agg #[.slice none 0 0, .int .i64 0, .int .i64 0]]) ∧ Below w.heap.size w w')
theorem One.box {w0 w w' : World} {G L M R C : Nat} {g : Gd} {Q : Nat} {A : Option Addr} {cap : Nat} (h : One w0 w G L M R C g Q A cap) {q : Nat} {t : TypeId} {l : List Value} (h1 : t ≠ 102) (h2 : t ≠ 45) (h3 : t ≠ 65) (hp : Whole w q t l) (ht : Trn G L M w w') (hq : q ≠ Q) (A' : Option Addr) (R' cap' : Nat) (g' : Gd) :
    Whole (((w'.setCell ⟨Q, 0, none⟩ (.slice A' R' cap')).setCell ⟨Q, 1, none⟩ (.int .i64 (g'.row : Int))).setCell ⟨Q, 2, none⟩ (.int .i64 (g'.col : Int))) q t l := by
  obtain ⟨cap0, ps0, room0, more0, ha⟩ := h.p.grd
  exact (ht.whole hp (hp.ne ha.top h1) (hp.ne ha.lines h2) (hp.ne ha.piece h3)).same (heap_put3 _ _ _ _ _ _ hq)
/-- Another grid turned, whose blocks are apart. -/
theorem One.away {w0 w w' : World} {G L M R C : Nat} {g : Gd} {Q : Nat} {A : Option Addr} {cap : Nat} (h : One w0 w G L M R C g Q A cap) {G' L' M' R' C' : Nat} {g' : Gd} (h' : Grd w G' L' M' R' C' g') (hR : 1 ≤ R') (ht : Trn G' L' M' w w') (hne : G ≠ G' ∧ L ≠ L' ∧ M ≠ M') (hB : w0.heap.size ≤ G' ∧ w0.heap.size ≤ L' ∧ w0.heap.size ≤ M') : One w0 w' G L M R C g Q A cap :=
  ⟨h.p.far h' ht hne, h.sp.turn h' hR ht, ht.below h.bel h.bel.size hB.1 hB.2.1 hB.2.2, h.pos⟩
set_option maxHeartbeats 4000000 in
theorem dmade_any (rows cols : Int) (A0 : Option Addr) (len cap0 : Nat) (w : World) (ha : Acts w A0 len) (hS : Spans w) :
    Calls Tryz.prog 7 #[.int .i64 rows, .int .i64 cols, .slice A0 len cap0] w (MadeG w) := by
  have HA := hide ha
  have HS := hide hS
  obtain ⟨sr, hsr⟩ : ∃ sr, smallI rows = sr := ⟨_, rfl⟩
  obtain ⟨sc, hsc⟩ : ∃ sc, smallI cols = sc := ⟨_, rfl⟩
  have HSR := hide hsr
  have HSC := hide hsc
  obtain ⟨W0, hW0⟩ : ∃ W0, w.alloc (.cells #[.slice none 0 0, .int .i64 0, .int .i64 0] 26) = W0 := ⟨_, rfl⟩
  have HB0 : Hid (Below w.heap.size w W0) := by unfold Hid; rw [← hW0]; exact new1W _ _
  have HY0 : Hid (Whole W0 w.heap.size 26 [.slice none 0 0, .int .i64 0, .int .i64 0]) := by unfold Hid; rw [← hW0]; exact Whole.new w 26 [.slice none 0 0, .int .i64 0, .int .i64 0]
  have HW0 := hide hW0
  clear ha hS hsr hsc hW0
  by_cases hs : sizeN sr sc
  · obtain ⟨R0, C0, rfl, rfl, q1, q2, q3, q4⟩ := sizeN_small hs
    clear hs
    go_enter Tryz.func7, Tryz.ntmps7
    go_wp2_with fail
    rw [HW0.out]
    refine (dsmall_any rows W0).mono ?_
    rintro e w1 ⟨rfl, rfl⟩
    rw [HSR.out]
    go_wp2_with fail
    refine (dsmall_any cols W0).mono ?_
    rintro e w1 ⟨rfl, rfl⟩
    rw [HSC.out]
    go_wp2_with fail
    refine (gnew_yes R0 C0 q1 q2 q3 q4 W0).mono ?_
    rintro e w1 ⟨G1, L1, M1, rfl, hg, hb, n1, n2, n3⟩
    have HG1 := hide hg
    have HB1 := hide (HB0.out.trans (hb.mono HB0.out.size))
    have HY1 := hide (HY0.out.later hb)
    have hYlt := HY0.out.lt
    have hs1 := hb.size
    have HN : Hid (w.heap.size ≤ G1 ∧ w.heap.size ≤ L1 ∧ w.heap.size ≤ M1) := ⟨Nat.le_trans HB0.out.size n1, Nat.le_trans HB0.out.size n2, Nat.le_trans HB0.out.size n3⟩
    clear hg hb n1 n2 n3
    go_wp2_with fail
    refine (rgnew_v R0 C0 q1 q2 w1).mono ?_
    rintro e w3 ⟨c1, cap3, rfl, hl3, hb, -⟩
    obtain ⟨Q11, hQ⟩ : ∃ Q11, w3.heap.size = Q11 := ⟨_, rfl⟩
    obtain ⟨W5, hW5⟩ : ∃ W5, w3.alloc (.cells #[.slice (some ⟨c1, 0, none⟩) R0 cap3, .int .i64 0, .int .i64 0] 26) = W5 := ⟨_, rfl⟩
    have hb5 : Below w1.heap.size w1 W5 := by rw [← hW5]; exact hb.alloc hb.size _
    have HB5 := hide (HB1.out.trans (hb5.mono HB1.out.size))
    have hq3 : w1.heap.size ≤ Q11 := by rw [← hQ]; exact hb.size
    have hx3 : Whole W5 Q11 26 [.slice (some ⟨c1, 0, none⟩) R0 cap3, .int .i64 0, .int .i64 0] := by rw [← hW5, ← hQ]; exact Whole.new w3 26 [.slice (some ⟨c1, 0, none⟩) R0 cap3, .int .i64 0, .int .i64 0]
    have hl5 : Lns W5 (some ⟨c1, 0, none⟩) (newG R0 C0).ls := by rw [← hW5]; exact hl3.alloc _
    have hok := GOk.new (R := R0) (C := C0) q1 q2 q3 q4
    have HX00 : Hid (One w W5 G1 L1 M1 R0 C0 (newG R0 C0) Q11 (some ⟨c1, 0, none⟩) cap3) := ⟨⟨HG1.out.later hb5, hok, hx3, hl5, HN.out.1, HN.out.2.1, HN.out.2.2, Nat.le_trans HB1.out.size hq3⟩, HS.out.below HB5.out, HB5.out, HS.out.size⟩
    have HP00 := hide (HY1.out.later hb5)
    have hQP : Hid (w.heap.size ≠ Q11) := Nat.ne_of_lt (Nat.lt_of_lt_of_le HY1.out.lt hq3)
    have HW5 := hide hW5
    have HQ := hide hQ
    clear hl3 hb hb5 hW5 hQ hx3 hl5 hok hq3
    go_wp2
    rw [HW5.out, HQ.out]
    go_loopw [8, 11] (fun gp i wr => ∃ (k : Nat) (g : Gd) (R C G L M : Nat) (A : Option Addr) (cap : Nat), k ≤ len ∧ i = .int .i64 k ∧ gp = .pointer (some ⟨G, 0, none⟩) ∧ One w wr G L M R C g Q11 A cap ∧ Whole wr w.heap.size 26 [.slice none 0 0, .int .i64 0, .int .i64 0]) (fun _ i _ => len - (intOf i).toNat)
    case atStart => exact ⟨0, _, _, _, _, _, _, _, _, Nat.zero_le _, rfl, rfl, HX00.out, HP00.out⟩
    case round =>
      obtain ⟨k, g, R, C, G, L, M, A, cap, hk, rfl, rfl, hx, hp⟩ := hrel
      have HX1 := hide hx
      have HPk := hide hp
      clear hx hp
      by_cases hlt : k < len
      · by_cases h40 : k < 30
        · obtain ⟨b, off, a, rfl, lb, hac, f0, f1, f2, f3, f4, f5, f6, f7, f8, f9, g0, g1, g2, g3, g4, g5⟩ := (HA.out.below HX1.out.bel).at (i := k) hlt
          have HAC := hide hac
          obtain ⟨x0, x1, x2, lx⟩ := cells3 HX1.out.p.q
          clear hac
          go_wp2
          refine rgL (fun w' => Below wr.heap.size wr w') 6 [(2, 0), (2, 2), (2, 3), (2, 4), (0, 1), (1, 5), (3, 6), (3, 7), (2, 8), (2, 11), (2, 9), (2, 10), (3, 12)] ((Below.refl _ _).drewN 1) ?_
          iterate 4 refine puL (h := ?_)
          refine stL (hy := fun w hS => by obtain ⟨d0, d1, d2, -⟩ := cells3 (HX1.out.p.q.later hS); go_simp <;> with_reducible rfl) (h := ?_)
          refine alL fun K hK => ?_
          go_wp2
          refine hK.out _ _ ((Below.refl _ _).drewN 1) ?_
          clear hK K
          refine laL fun K hK => ?_
          go_wp2_with fail
          refine (do_any HX1.out.drew.p.grd HX1.out.p.ok A cap HX1.out.drew.p.lns HX1.out.drew.sp a (HAC.out.below ((Below.refl _ _).drewN 1))).mono ?_
          rintro e k1 ⟨g', R', C', G', L', M', A', cap', rfl, hg, hl, hok, ht, hG, hL, hM⟩
          have HPn := hide (HX1.out.drew.box (by decide) (by decide) (by decide) HPk.out.drew ht hQP.out A' R' cap' g')
          have HN := hide (HX1.out.drew.next hg hl hok ht hG hL hM (cap' := cap'))
          have HQ := hide (HX1.out.drew.p.turned ht)
          clear hg hl hok ht hG hL hM f0 f1 f2 f3 f4 f5 f6 f7 f8 f9 g0 g1 g2 g3 g4 g5 x0 x1 x2 lx lb
          obtain ⟨x0, x1, x2, lx⟩ := cells3 HQ.out
          have hxf := HQ.out.frozen
          go_wp2
          refine hK.out _ _ ?_
          clear hK K
          refine laL fun K hK => ?_
          go_wp2
          refine hK.out _ _ ?_
          clear hK K
          iterate 4 refine puL (h := ?_)
          refine laL fun K hK => ?_
          go_wp2
          refine hK.out _ _ ?_
          clear hK K
          refine chainL_nil ?_
          clear x0 x1 x2 lx hxf HQ
          go_wp2
          go_roundw
          case rel => exact ⟨k + 1, _, _, _, _, _, _, _, _, hlt, by go_num, by rfl, HN.out, HPn.out⟩
          case measure => simp [intOf]; omega
        ·
          have HGO := hide HX1.out.p.ok
          obtain ⟨x0, x1, x2, lx⟩ := cells3 HX1.out.p.q
          obtain ⟨y0, y1, y2, ly⟩ := cells3 HPk.out
          have fy := HPk.out.frozen
          go_wp2
          refine rgL (fun w' => Below wr.heap.size wr w') 3 [(0, 0), (0, 2), (1, 1), (3, 3)] ((Below.refl _ _).drewN 1) ?_
          iterate 2 refine stL (h := ?_)
          refine alL fun K hK => ?_
          go_wp2
          refine hK.out _ _ ((Below.refl _ _).drewN 1) ?_
          clear hK K
          have HD := hide HX1.out.drew
          have HPd := hide (HPk.out.drew)
          obtain ⟨wd, hwd⟩ : ∃ wd, wr.drew = wd := ⟨_, rfl⟩
          rw [hwd] at HD HPd ⊢
          clear hwd
          clear y0 y1 y2 ly fy
          obtain ⟨y0, y1, y2, ly⟩ := cells3 HPd.out
          have fy := HPd.out.frozen
          refine laL fun K hK => ?_
          go_wp2
          refine hK.out _ _ ?_
          clear hK K
          refine chainL_nil ?_
          have HGF := hide (HD.out.p.grd.put3 HPd.out (.slice A R cap) (.int .i64 (g.row : Int)) (.int .i64 (g.col : Int)))
          have HLF := hide (HD.out.p.lns.put3 HPd.out (by decide) (by decide) (.slice A R cap) (.int .i64 (g.row : Int)) (.int .i64 (g.col : Int)))
          have HBF := hide (below_put3 HD.out.bel (Nat.le_refl _) (.slice A R cap) (.int .i64 (g.row : Int)) (.int .i64 (g.col : Int)))
          have HWF := hide (put3 HPd.out (.slice A R cap) (.int .i64 (g.row : Int)) (.int .i64 (g.col : Int)))
          go_wp2
          refine retGm Tryz.results7 rfl rfl rfl HWF.out ?_
          exact .inl ⟨g, R, C, G, L, M, A, cap, rfl, ⟨HGF.out, HBF.out, HD.out.p.hG, HD.out.p.hL, HD.out.p.hM⟩, HLF.out, HGO.out⟩
      ·
        have HGO := hide HX1.out.p.ok
        obtain ⟨x0, x1, x2, lx⟩ := cells3 HX1.out.p.q
        obtain ⟨y0, y1, y2, ly⟩ := cells3 HPk.out
        have fy := HPk.out.frozen
        go_wp2
        refine rgL (fun w' => Below wr.heap.size wr w') 3 [(0, 0), (0, 2), (1, 1), (3, 3)] ((Below.refl _ _).drewN 1) ?_
        iterate 2 refine stL (h := ?_)
        refine alL fun K hK => ?_
        go_wp2
        refine hK.out _ _ ((Below.refl _ _).drewN 1) ?_
        clear hK K
        have HD := hide HX1.out.drew
        have HPd := hide (HPk.out.drew)
        obtain ⟨wd, hwd⟩ : ∃ wd, wr.drew = wd := ⟨_, rfl⟩
        rw [hwd] at HD HPd ⊢
        clear hwd
        clear y0 y1 y2 ly fy
        obtain ⟨y0, y1, y2, ly⟩ := cells3 HPd.out
        have fy := HPd.out.frozen
        refine laL fun K hK => ?_
        go_wp2
        refine hK.out _ _ ?_
        clear hK K
        refine chainL_nil ?_
        have HGF := hide (HD.out.p.grd.put3 HPd.out (.slice A R cap) (.int .i64 (g.row : Int)) (.int .i64 (g.col : Int)))
        have HLF := hide (HD.out.p.lns.put3 HPd.out (by decide) (by decide) (.slice A R cap) (.int .i64 (g.row : Int)) (.int .i64 (g.col : Int)))
        have HBF := hide (below_put3 HD.out.bel (Nat.le_refl _) (.slice A R cap) (.int .i64 (g.row : Int)) (.int .i64 (g.col : Int)))
        have HWF := hide (put3 HPd.out (.slice A R cap) (.int .i64 (g.row : Int)) (.int .i64 (g.col : Int)))
        go_wp2
        refine retGm Tryz.results7 rfl rfl rfl HWF.out ?_
        exact .inl ⟨g, R, C, G, L, M, A, cap, rfl, ⟨HGF.out, HBF.out, HD.out.p.hG, HD.out.p.hL, HD.out.p.hM⟩, HLF.out, HGO.out⟩
  · go_enter Tryz.func7, Tryz.ntmps7
    have HNS := hide hs
    clear hs
    go_wp2_with fail
    rw [HW0.out]
    refine (dsmall_any rows W0).mono ?_
    rintro e w1 ⟨rfl, rfl⟩
    rw [HSR.out]
    go_wp2_with fail
    refine (dsmall_any cols W0).mono ?_
    rintro e w1 ⟨rfl, rfl⟩
    rw [HSC.out]
    go_wp2_with fail
    refine (gnew_no sr sc HNS.out W0).mono ?_
    rintro e w1 ⟨rfl, rfl⟩
    obtain ⟨y0, y1, y2, ly⟩ := cells3 HY0.out
    have fy := HY0.out.frozen
    have HBF := hide (below_put3 HB0.out (Nat.le_refl _) (.slice none 0 0) (.int .i64 0) (.int .i64 0))
    have HWF := hide (put3 HY0.out (.slice none 0 0) (.int .i64 0) (.int .i64 0))
    go_wp2
    refine retGm Tryz.results7 rfl rfl rfl HWF.out ?_
    exact .inr ⟨rfl, HBF.out⟩
end Go.Proofs.YtoddfaoifnkhlaaGreatDoor
