/-
  The walk of the law GridScrolls.
-/
import Derived.Test.YtiifeniijcnahaaDoorGLoop
namespace Go.Proofs.YtiifeniijcnahaaDoor
set_option maxRecDepth 100000
open Go.ChangeShapes Go.WideShapes Go.ChangeAt Go.RowKit
set_option linter.unusedVariables false

theorem mod_nat (x : Int) (n : Nat) (hn : 0 < n) : ∃ m : Nat, (IntKind.u64.wrap x).tmod (n : Int) = (m : Int) ∧ m < n := by
  have h0 : 0 ≤ IntKind.u64.wrap x := by rw [IntKind.wrap_u64]; omega
  obtain ⟨k, hk⟩ : ∃ k : Nat, IntKind.u64.wrap x = (k : Int) := ⟨(IntKind.u64.wrap x).toNat, by omega⟩
  refine ⟨k % n, ?_, Nat.mod_lt _ hn⟩
  rw [hk]
  rfl
theorem scroll_len (g : Gd) (C : Nat) (n : Int) (p : Pn) : (scrollG g C n p).ls.length = g.ls.length := by
  unfold scrollG
  split
  · exact gtab_len _ _
  · rfl
theorem scroll_up_twice (g : Gd) (C : Nat) (a b : Nat) (p : Pn) : scrollG (scrollG g C (a : Int) p) C (b : Int) p = scrollG g C ((a : Int) + (b : Int)) p := by
  by_cases hp : rightN p = true
  · have hl := scroll_len g C (a : Int) p
    obtain ⟨R, hR⟩ : ∃ R, g.ls.length = R := ⟨_, rfl⟩
    have e1 : ∀ (h : Gd) (n : Int), scrollG h C n p = { h with ls := gtab h.ls.length (scrollAt h.ls C (clampI n h.ls.length) p) } := fun h n => by unfold scrollG; rw [if_pos hp]
    rw [e1 (scrollG g C (a : Int) p) (b : Int), hl, e1 g (a : Int), e1 g ((a : Int) + (b : Int)), hR]
    congr 1
    refine gtab_eq fun i hi => ?_
    have e2 : ∀ j, j < R → lAt (gtab R (scrollAt g.ls C (clampI (a : Int) R) p)) j = scrollAt g.ls C (clampI (a : Int) R) p j := fun j hj => gtab_lAt _ _ _ hj
    unfold scrollAt
    rw [gtab_len, hR]
    by_cases h1 : 0 ≤ (i : Int) + clampI (b : Int) R ∧ (i : Int) + clampI (b : Int) R < (R : Int)
    · rw [if_pos h1]
      have hj : ((i : Int) + clampI (b : Int) R).toNat < R := by omega
      have e3 := e2 _ hj
      unfold scrollAt at e3
      rw [hR] at e3
      rw [e3]
      have e4 : ((((i : Int) + clampI (b : Int) R).toNat : Nat) : Int) = (i : Int) + clampI (b : Int) R := by omega
      rw [e4]
      by_cases h2 : (i : Int) + clampI (b : Int) R + clampI (a : Int) R < (R : Int)
      · have hb : clampI (b : Int) R = (b : Int) := by unfold clampI at *; omega
        have ha : clampI (a : Int) R = (a : Int) := by unfold clampI at *; omega
        have hab : clampI ((a : Int) + (b : Int)) R = (a : Int) + (b : Int) := by unfold clampI at *; omega
        rw [hb, ha] at h2 ⊢
        rw [hab, if_pos (by omega), if_pos (by omega)]
        congr 1
        omega
      · rw [if_neg (fun q => h2 q.2), if_neg (by unfold clampI at *; omega)]
    · rw [if_neg h1, if_neg (by unfold clampI at *; omega)]
  · unfold scrollG
    rw [if_neg hp, if_neg hp, if_neg hp]
theorem scroll_down_twice (g : Gd) (C : Nat) (a b : Nat) (p : Pn) : scrollG (scrollG g C (-(a : Int)) p) C (-(b : Int)) p = scrollG g C (-(a : Int) - (b : Int)) p := by
  by_cases hp : rightN p = true
  · have hl := scroll_len g C (-(a : Int)) p
    obtain ⟨R, hR⟩ : ∃ R, g.ls.length = R := ⟨_, rfl⟩
    have e1 : ∀ (h : Gd) (n : Int), scrollG h C n p = { h with ls := gtab h.ls.length (scrollAt h.ls C (clampI n h.ls.length) p) } := fun h n => by unfold scrollG; rw [if_pos hp]
    rw [e1 (scrollG g C (-(a : Int)) p) (-(b : Int)), hl, e1 g (-(a : Int)), e1 g (-(a : Int) - (b : Int)), hR]
    congr 1
    refine gtab_eq fun i hi => ?_
    have e2 : ∀ j, j < R → lAt (gtab R (scrollAt g.ls C (clampI (-(a : Int)) R) p)) j = scrollAt g.ls C (clampI (-(a : Int)) R) p j := fun j hj => gtab_lAt _ _ _ hj
    unfold scrollAt
    rw [gtab_len, hR]
    by_cases h1 : 0 ≤ (i : Int) + clampI (-(b : Int)) R ∧ (i : Int) + clampI (-(b : Int)) R < (R : Int)
    · rw [if_pos h1]
      have hj : ((i : Int) + clampI (-(b : Int)) R).toNat < R := by omega
      have e3 := e2 _ hj
      unfold scrollAt at e3
      rw [hR] at e3
      rw [e3]
      have e4 : ((((i : Int) + clampI (-(b : Int)) R).toNat : Nat) : Int) = (i : Int) + clampI (-(b : Int)) R := by omega
      rw [e4]
      by_cases h2 : 0 ≤ (i : Int) + clampI (-(b : Int)) R + clampI (-(a : Int)) R
      · have hb : clampI (-(b : Int)) R = -(b : Int) := by unfold clampI at *; omega
        have ha : clampI (-(a : Int)) R = -(a : Int) := by unfold clampI at *; omega
        have hab : clampI (-(a : Int) - (b : Int)) R = -(a : Int) - (b : Int) := by unfold clampI at *; omega
        rw [hb, ha] at h2 ⊢
        rw [hab, if_pos (by omega), if_pos (by omega)]
        congr 1
        omega
      · rw [if_neg (fun q => h2 q.1), if_neg (by unfold clampI at *; omega)]
    · rw [if_neg h1, if_neg (by unfold clampI at *; omega)]
  · unfold scrollG
    rw [if_neg hp, if_neg hp, if_neg hp]
theorem scroll_cursor (g : Gd) (C : Nat) (n : Int) (p : Pn) : (scrollG g C n p).row = g.row ∧ (scrollG g C n p).col = g.col := by
  unfold scrollG
  split <;> exact ⟨rfl, rfl⟩
/-- A grid all of whose blocks are new, kept while another one turns. -/
theorem Grd.away {w w' : World} {G L M R C G' L' M' R' C' : Nat} {g g' : Gd} (h : Grd w G L M R C g) (h' : Grd w G' L' M' R' C' g') (ht : Trn G' L' M' w w') (hne : G ≠ G' ∧ L ≠ L' ∧ M ≠ M') : Grd w' G L M R C g := by
  obtain ⟨cap', ps', room', more', ha'⟩ := h'
  have hg := h
  obtain ⟨cap0, ps0, room0, more0, ha⟩ := h
  exact hg.far ht ⟨hne.1, ha.top.ne ha'.lines (by decide), ha.top.ne ha'.piece (by decide)⟩ ⟨ha.lines.ne ha'.top (by decide), hne.2.1, ha.lines.ne ha'.piece (by decide)⟩ ⟨ha.piece.ne ha'.top (by decide), ha.piece.ne ha'.lines (by decide), hne.2.2⟩
theorem One.pens {w0 w w' : World} {G L M R C : Nat} {g : Gd} {Q : Nat} {A : Option Addr} {cap : Nat} (h : One w0 w G L M R C g Q A cap) {q : Nat} {l : List Value} (hp : Whole w q 38 l) (ht : Trn G L M w w') (hq : q ≠ Q) (A' : Option Addr) (R' cap' : Nat) (g' : Gd) :
    Whole (((w'.setCell ⟨Q, 0, none⟩ (.slice A' R' cap')).setCell ⟨Q, 1, none⟩ (.int .i64 (g'.row : Int))).setCell ⟨Q, 2, none⟩ (.int .i64 (g'.col : Int))) q 38 l := by
  obtain ⟨cap0, ps0, room0, more0, ha⟩ := h.p.grd
  exact (ht.whole hp (hp.ne ha.top (by decide)) (hp.ne ha.lines (by decide)) (hp.ne ha.piece (by decide))).same (heap_put3 _ _ _ _ _ _ hq)
set_option maxHeartbeats 8000000 in
theorem gridScrolls_walk (rows cols : Int) (A0 : Option Addr) (len cap0 : Nat) (a b : Int) (pf pg pb : Nat) (hp : PenOk pf pg pb) (w : World) (hr : (Lit.int .i64 rows).wf = true) (hc : (Lit.int .i64 cols).wf = true) (ha : Acts w A0 len) (hwa : (Lit.int .i64 a).wf = true) (hwb : (Lit.int .i64 b).wf = true) (hS : Spans w) :
    Calls Tryd.prog 5 #[.int .i64 rows, .int .i64 cols, .slice A0 len cap0, .int .i64 a, .int .i64 b, .agg #[.int .u8 (pf : Int), .int .u8 (pg : Int), .int .u8 (pb : Int)]] w fun e w' => e = .returned (.bool true) ∧ Below w.heap.size w w' := by
  obtain ⟨m, hm, hm1⟩ := mod_nat rows 12 (by omega)
  obtain ⟨n, hn, hn1⟩ := mod_nat cols 12 (by omega)
  obtain ⟨na, hna, hna1⟩ := mod_nat a 7 (by omega)
  obtain ⟨nb, hnb, hnb1⟩ := mod_nat b 7 (by omega)
  obtain ⟨R0, hR0⟩ : ∃ R0 : Nat, 1 + (m : Int) = (R0 : Int) := ⟨1 + m, by omega⟩
  obtain ⟨C0, hC0⟩ : ∃ C0 : Nat, 1 + (n : Int) = (C0 : Int) := ⟨1 + n, by omega⟩
  have q1 : 1 ≤ R0 := by omega
  have q2 : R0 ≤ 512 := by omega
  have q3 : 1 ≤ C0 := by omega
  have q4 : C0 ≤ 512 := by omega
  have HA := hide ha
  obtain ⟨W0, hW0⟩ : ∃ W0, w.alloc (.cells #[.int .u8 (pf : Int), .int .u8 (pg : Int), .int .u8 (pb : Int)] 38) = W0 := ⟨_, rfl⟩
  have HB0 : Hid (Below w.heap.size w W0) := by unfold Hid; rw [← hW0]; exact new1W _ _
  have HY0 : Hid (Whole W0 w.heap.size 38 [.int .u8 (pf : Int), .int .u8 (pg : Int), .int .u8 (pb : Int)]) := by unfold Hid; rw [← hW0]; exact Whole.new w 38 [.int .u8 (pf : Int), .int .u8 (pg : Int), .int .u8 (pb : Int)]
  have HS := hide hS
  have HW0 := hide hW0
  simp only [Int.cast_ofNat_Int] at hm hn hna hnb
  clear hW0 ha hS hr hc hwa hwb hp
  go_enter Tryd.func5, Tryd.ntmps5
  go_wp2_with fail
  rw [HW0.out]
  refine (gnew_yes R0 C0 q1 q2 q3 q4 W0).mono ?_
  rintro e w1 ⟨G1, L1, M1, rfl, hg, hb, n1, n2, n3⟩
  have hok := GOk.new (R := R0) (C := C0) q1 q2 q3 q4
  have HG1 := hide hg
  have HB1 := hide (HB0.out.trans (hb.mono HB0.out.size))
  have HY1 := hide (HY0.out.later hb)
  have HN1 : Hid (w.heap.size ≤ G1 ∧ w.heap.size ≤ L1 ∧ w.heap.size ≤ M1) := by unfold Hid; have := HB0.out.size; omega
  have hsz := hb.size
  have hYlt := HY0.out.lt
  clear hg hb n1 n2 n3
  go_wp2_with fail
  refine (gof_any HG1.out hok).mono ?_
  rintro e w2 ⟨A2, cap2, rfl, hl, hb⟩
  obtain ⟨Q15, hQ⟩ : ∃ Q15, w2.heap.size = Q15 := ⟨_, rfl⟩
  obtain ⟨W5, hW5⟩ : ∃ W5, w2.alloc (.cells #[.slice A2 R0 cap2, .int .i64 ((newG R0 C0).row : Int), .int .i64 ((newG R0 C0).col : Int)] 32) = W5 := ⟨_, rfl⟩
  have hb5 : Below w1.heap.size w1 W5 := by rw [← hW5]; exact hb.alloc hb.size _
  have HB5 := hide (HB1.out.trans (hb5.mono HB1.out.size))
  have hQ15 : w1.heap.size ≤ Q15 := by rw [← hQ]; exact hb.size
  have hx5 : Whole W5 Q15 32 [.slice A2 R0 cap2, .int .i64 ((newG R0 C0).row : Int), .int .i64 ((newG R0 C0).col : Int)] := by rw [← hW5, ← hQ]; exact Whole.new w2 32 [.slice A2 R0 cap2, .int .i64 ((newG R0 C0).row : Int), .int .i64 ((newG R0 C0).col : Int)]
  have hl5 : Lns W5 A2 (newG R0 C0).ls := by rw [← hW5]; exact hl.alloc _
  have HX00 : Hid (One w W5 G1 L1 M1 R0 C0 (newG R0 C0) Q15 A2 cap2) := ⟨⟨HG1.out.later hb5, hok, hx5, hl5, HN1.out.1, HN1.out.2.1, HN1.out.2.2, by have := HB1.out.size; omega⟩, HS.out.below HB5.out, HB5.out, HS.out.size⟩
  have HP00 := hide (HY1.out.later hb5)
  have hQP : Hid (w.heap.size ≠ Q15) := by unfold Hid; omega
  have HW5 := hide hW5
  have HQ := hide hQ
  clear hl hb hb5 hW5 hQ hx5 hl5 hok hQ15
  go_wp2
  rw [HW5.out, HQ.out]
  go_loopw [13, 16] (fun gp i wr => ∃ (k : Nat) (g : Gd) (R C G L M : Nat) (A : Option Addr) (cap : Nat), k ≤ len ∧ i = .int .i64 k ∧ gp = .pointer (some ⟨G, 0, none⟩) ∧ One w wr G L M R C g Q15 A cap ∧ Whole wr w.heap.size 38 [.int .u8 (pf : Int), .int .u8 (pg : Int), .int .u8 (pb : Int)]) (fun _ i _ => len - (intOf i).toNat)
  case atStart => exact ⟨0, _, _, _, _, _, _, _, _, Nat.zero_le _, rfl, rfl, HX00.out, HP00.out⟩
  case round =>
    obtain ⟨k, g, R, C, G, L, M, A, cap, hk, rfl, rfl, hx, hp⟩ := hrel
    have HX1 := hide hx
    have HPk := hide hp
    clear hx hp
    by_cases hlt : k < len
    · by_cases h30 : k < 30
      · obtain ⟨b, off, a, rfl, lb, hac, f0, f1, f2, f3, f4, f5, f6, f7, f8, f9, g0, g1, g2, g3, g4, g5⟩ := (HA.out.below HX1.out.bel).at (i := k) hlt
        have HAC := hide hac
        obtain ⟨x0, x1, x2, lx⟩ := cells3 HX1.out.p.q
        clear hac
        go_wp2
        refine wp_region_chainL (fun w' => Below wr.heap.size wr w') 6 [(2, 0), (2, 2), (2, 3), (2, 4), (0, 1), (1, 5), (3, 6), (3, 7), (2, 8), (2, 11), (2, 9), (2, 10), (3, 12)] (by kernel_rfl) (by kernel_rfl) (by kernel_rfl) (fun _ _ _ _ _ h => h) ?_ ?_
        · exact (Below.refl _ _).drewN 1
        refine chainL_pure (v := ?_) (by simp only [List.getElem?_toArray, List.getElem?_cons_zero]; rfl) (by rfl) (fun w => ?_) ?_
        rotate_left
        · go_simp <;> with_reducible rfl
        simp only [Act.put, List.setIfInBounds_toArray, List.set_cons_zero, List.set_cons_succ]
        refine chainL_pure (v := ?_) (by simp only [List.getElem?_toArray, List.getElem?_cons_zero, List.getElem?_cons_succ]; rfl) (by rfl) (fun w => ?_) ?_
        rotate_left
        · go_simp <;> with_reducible rfl
        simp only [Act.put, List.setIfInBounds_toArray, List.set_cons_zero, List.set_cons_succ]
        refine chainL_pure (v := ?_) (by simp only [List.getElem?_toArray, List.getElem?_cons_zero, List.getElem?_cons_succ]; rfl) (by rfl) (fun w => ?_) ?_
        rotate_left
        · go_simp <;> with_reducible rfl
        simp only [Act.put, List.setIfInBounds_toArray, List.set_cons_zero, List.set_cons_succ]
        refine chainL_pure (v := ?_) (by simp only [List.getElem?_toArray, List.getElem?_cons_zero, List.getElem?_cons_succ]; rfl) (by rfl) (fun w => ?_) ?_
        rotate_left
        · go_simp <;> with_reducible rfl
        simp only [Act.put, List.setIfInBounds_toArray, List.set_cons_zero, List.set_cons_succ]
        refine chainL_take (v := ?_) (by simp only [List.getElem?_toArray, List.getElem?_cons_zero, List.getElem?_cons_succ]; rfl) (by rfl) (fun w hS => ?_) ?_
        rotate_left
        · obtain ⟨d0, d1, d2, -⟩ := cells3 (HX1.out.p.q.later hS); go_simp <;> with_reducible rfl
        simp only [Act.put, List.setIfInBounds_toArray, List.set_cons_zero, List.set_cons_succ]
        refine chainL_alone (by simp only [List.getElem?_toArray, List.getElem?_cons_zero, List.getElem?_cons_succ]; rfl) ?_
        intro K hK
        go_wp2
        refine hK.out _ _ ((Below.refl _ _).drewN 1) ?_
        clear hK K
        refine chainL_late (by simp only [List.getElem?_toArray, List.getElem?_cons_zero, List.getElem?_cons_succ]; rfl) ?_
        intro K hK
        go_wp2_with fail
        refine (do_any HX1.out.drew.p.grd HX1.out.p.ok A cap HX1.out.drew.p.lns HX1.out.drew.sp a (HAC.out.below ((Below.refl _ _).drewN 1))).mono ?_
        rintro e k1 ⟨g', R', C', G', L', M', A', cap', rfl, hg, hl, hok, ht, hG, hL, hM⟩
        have HPn := hide (HX1.out.drew.pens HPk.out.drew ht hQP.out A' R' cap' g')
        have HN := hide (HX1.out.drew.next hg hl hok ht hG hL hM (cap' := cap'))
        have HQ := hide (HX1.out.drew.p.turned ht)
        clear hg hl hok ht hG hL hM f0 f1 f2 f3 f4 f5 f6 f7 f8 f9 g0 g1 g2 g3 g4 g5 x0 x1 x2 lx lb
        obtain ⟨x0, x1, x2, lx⟩ := cells3 HQ.out
        have hxf := HQ.out.frozen
        go_wp2
        refine hK.out _ _ ?_
        clear hK K
        refine chainL_late (by simp only [List.getElem?_toArray, List.getElem?_cons_zero, List.getElem?_cons_succ]; rfl) ?_
        intro K hK
        go_wp2
        refine hK.out _ _ ?_
        clear hK K
        refine chainL_pure (v := ?_) (by simp only [List.getElem?_toArray, List.getElem?_cons_zero, List.getElem?_cons_succ]; rfl) (by rfl) (fun w => ?_) ?_
        rotate_left
        · go_simp <;> with_reducible rfl
        simp only [Act.put, List.setIfInBounds_toArray, List.set_cons_zero, List.set_cons_succ]
        refine chainL_pure (v := ?_) (by simp only [List.getElem?_toArray, List.getElem?_cons_zero, List.getElem?_cons_succ]; rfl) (by rfl) (fun w => ?_) ?_
        rotate_left
        · go_simp <;> with_reducible rfl
        simp only [Act.put, List.setIfInBounds_toArray, List.set_cons_zero, List.set_cons_succ]
        refine chainL_pure (v := ?_) (by simp only [List.getElem?_toArray, List.getElem?_cons_zero, List.getElem?_cons_succ]; rfl) (by rfl) (fun w => ?_) ?_
        rotate_left
        · go_simp <;> with_reducible rfl
        simp only [Act.put, List.setIfInBounds_toArray, List.set_cons_zero, List.set_cons_succ]
        refine chainL_pure (v := ?_) (by simp only [List.getElem?_toArray, List.getElem?_cons_zero, List.getElem?_cons_succ]; rfl) (by rfl) (fun w => ?_) ?_
        rotate_left
        · go_simp <;> with_reducible rfl
        simp only [Act.put, List.setIfInBounds_toArray, List.set_cons_zero, List.set_cons_succ]
        refine chainL_late (by simp only [List.getElem?_toArray, List.getElem?_cons_zero, List.getElem?_cons_succ]; rfl) ?_
        intro K hK
        go_wp2
        refine hK.out _ _ ?_
        clear hK K
        refine chainL_nil ?_
        clear x0 x1 x2 lx hxf HQ
        go_wp2
        go_roundw
        case rel => exact ⟨k + 1, _, _, _, _, _, _, _, _, hlt, by go_num, by rfl, HN.out, HPn.out⟩
        case measure => simp [intOf]; omega
      · obtain ⟨y0, y1, y2, ly⟩ := cells3 HPk.out
        have HGa := hide HX1.out.p.grd
        have HSa := hide HX1.out.sp
        have HBa := hide HX1.out.bel
        have HPa := HPk
        have hR1 := HX1.out.p.ok.r1
        have hR2 := HX1.out.p.ok.r2
        have hC1 := HX1.out.p.ok.c1
        have hC2 := HX1.out.p.ok.c2
        have lgG := HX1.out.p.grd.ltG
        have lgL := HX1.out.p.grd.ltL
        have lgM := HX1.out.p.grd.ltM
        have hB := HX1.out.bel.size
        have hPlt := HPk.out.lt
        go_wp2_with fail
        refine (copy_any HGa.out hR1 hR2 hC1 hC2).mono ?_
        rintro e v0 ⟨GU, LU, MU, rfl, hg, hb, n1, n2, n3⟩
        have bdU : wr.heap.size ≤ GU ∧ wr.heap.size ≤ LU ∧ wr.heap.size ≤ MU := ⟨n1, n2, n3⟩
        have ltU : GU < v0.heap.size ∧ LU < v0.heap.size ∧ MU < v0.heap.size := ⟨hg.ltG, hg.ltL, hg.ltM⟩
        have hs0 := hb.size
        have HGb := hide (HGa.out.later hb)
        have HSb := hide (HSa.out.below hb)
        have HBb := hide (HBa.out.trans (hb.mono HBa.out.size))
        have HPb := hide (HPa.out.later hb)
        have HUb := hide hg
        clear hg hb n1 n2 n3
        clear y0 y1 y2 ly
        obtain ⟨y0, y1, y2, ly⟩ := cells3 HPb.out
        go_wp2_with fail
        refine (copy_any HGb.out hR1 hR2 hC1 hC2).mono ?_
        rintro e v1 ⟨GD, LD, MD, rfl, hg, hb, n1, n2, n3⟩
        have bdD : v0.heap.size ≤ GD ∧ v0.heap.size ≤ LD ∧ v0.heap.size ≤ MD := ⟨n1, n2, n3⟩
        have ltD : GD < v1.heap.size ∧ LD < v1.heap.size ∧ MD < v1.heap.size := ⟨hg.ltG, hg.ltL, hg.ltM⟩
        have hs1 := hb.size
        have HGc := hide (HGb.out.later hb)
        have HSc := hide (HSb.out.below hb)
        have HBc := hide (HBb.out.trans (hb.mono HBb.out.size))
        have HPc := hide (HPb.out.later hb)
        have HDc := hide hg
        have HUc := hide (HUb.out.later hb)
        clear hg hb n1 n2 n3
        clear y0 y1 y2 ly
        obtain ⟨y0, y1, y2, ly⟩ := cells3 HPc.out
        go_wp2_with fail
        refine (copy_any HGc.out hR1 hR2 hC1 hC2).mono ?_
        rintro e v2 ⟨GX, LX, MX, rfl, hg, hb, n1, n2, n3⟩
        have bdX : v1.heap.size ≤ GX ∧ v1.heap.size ≤ LX ∧ v1.heap.size ≤ MX := ⟨n1, n2, n3⟩
        have ltX : GX < v2.heap.size ∧ LX < v2.heap.size ∧ MX < v2.heap.size := ⟨hg.ltG, hg.ltL, hg.ltM⟩
        have hs2 := hb.size
        have HGd := hide (HGc.out.later hb)
        have HSd := hide (HSc.out.below hb)
        have HBd := hide (HBc.out.trans (hb.mono HBc.out.size))
        have HPd := hide (HPc.out.later hb)
        have HXd := hide hg
        have HUd := hide (HUc.out.later hb)
        have HDd := hide (HDc.out.later hb)
        clear hg hb n1 n2 n3
        clear y0 y1 y2 ly
        obtain ⟨y0, y1, y2, ly⟩ := cells3 HPd.out
        go_wp2_with fail
        refine (copy_any HGd.out hR1 hR2 hC1 hC2).mono ?_
        rintro e v3 ⟨GY, LY, MY, rfl, hg, hb, n1, n2, n3⟩
        have bdY : v2.heap.size ≤ GY ∧ v2.heap.size ≤ LY ∧ v2.heap.size ≤ MY := ⟨n1, n2, n3⟩
        have ltY : GY < v3.heap.size ∧ LY < v3.heap.size ∧ MY < v3.heap.size := ⟨hg.ltG, hg.ltL, hg.ltM⟩
        have hs3 := hb.size
        have HGe := hide (HGd.out.later hb)
        have HSe := hide (HSd.out.below hb)
        have HBe := hide (HBd.out.trans (hb.mono HBd.out.size))
        have HPe := hide (HPd.out.later hb)
        have HYe := hide hg
        have HUe := hide (HUd.out.later hb)
        have HDe := hide (HDd.out.later hb)
        have HXe := hide (HXd.out.later hb)
        clear hg hb n1 n2 n3
        clear y0 y1 y2 ly
        obtain ⟨y0, y1, y2, ly⟩ := cells3 HPe.out
        go_wp2_with fail
        refine (scroll_any HUe.out hR1 hR2 hC1 hC2 HSe.out (na : Int) pf pg pb).mono ?_
        rintro e s0 ⟨rfl, Ls0, hg, ht, hL⟩
        have hz0 := ht.size
        have ltL0 : Ls0 < s0.heap.size := hg.ltL
        have HGf := hide (HGe.out.away HUe.out ht (by omega))
        have HSf := hide (HSe.out.turn HUe.out hR1 ht)
        have HBf := hide (ht.below HBe.out HBe.out.size (by omega) (by omega) (by omega))
        have HPf := hide (ht.whole HPe.out (by omega) (by omega) (by omega))
        have HUf := hide hg
        have HDf := hide (HDe.out.away HUe.out ht (by omega))
        have HXf := hide (HXe.out.away HUe.out ht (by omega))
        have HYf := hide (HYe.out.away HUe.out ht (by omega))
        clear hg ht
        clear y0 y1 y2 ly
        obtain ⟨y0, y1, y2, ly⟩ := cells3 HPf.out
        go_wp2_with fail
        refine (scroll_any HUf.out hR1 hR2 hC1 hC2 HSf.out (nb : Int) pf pg pb).mono ?_
        rintro e s1 ⟨rfl, Ls1, hg, ht, hL⟩
        have hz1 := ht.size
        have ltL1 : Ls1 < s1.heap.size := hg.ltL
        have HGg := hide (HGf.out.away HUf.out ht (by omega))
        have HSg := hide (HSf.out.turn HUf.out hR1 ht)
        have HBg := hide (ht.below HBf.out HBf.out.size (by omega) (by omega) (by omega))
        have HPg := hide (ht.whole HPf.out (by omega) (by omega) (by omega))
        have HUg := hide hg
        have HDg := hide (HDf.out.away HUf.out ht (by omega))
        have HXg := hide (HXf.out.away HUf.out ht (by omega))
        have HYg := hide (HYf.out.away HUf.out ht (by omega))
        clear hg ht
        clear y0 y1 y2 ly
        obtain ⟨y0, y1, y2, ly⟩ := cells3 HPg.out
        go_wp2_with fail
        refine (scroll_any HXg.out hR1 hR2 hC1 hC2 HSg.out ((na : Int) + (nb : Int)) pf pg pb).mono ?_
        rintro e s2 ⟨rfl, Ls2, hg, ht, hL⟩
        have hz2 := ht.size
        have ltL2 : Ls2 < s2.heap.size := hg.ltL
        have HGh := hide (HGg.out.away HXg.out ht (by omega))
        have HSh := hide (HSg.out.turn HXg.out hR1 ht)
        have HBh := hide (ht.below HBg.out HBg.out.size (by omega) (by omega) (by omega))
        have HPh := hide (ht.whole HPg.out (by omega) (by omega) (by omega))
        have HXh := hide hg
        have HUh := hide (HUg.out.away HXg.out ht (by omega))
        have HDh := hide (HDg.out.away HXg.out ht (by omega))
        have HYh := hide (HYg.out.away HXg.out ht (by omega))
        clear hg ht
        clear y0 y1 y2 ly
        obtain ⟨y0, y1, y2, ly⟩ := cells3 HPh.out
        go_wp2_with fail
        refine (scroll_any HDh.out hR1 hR2 hC1 hC2 HSh.out (-(na : Int)) pf pg pb).mono ?_
        rintro e s3 ⟨rfl, Ls3, hg, ht, hL⟩
        have hz3 := ht.size
        have ltL3 : Ls3 < s3.heap.size := hg.ltL
        have HGi := hide (HGh.out.away HDh.out ht (by omega))
        have HSi := hide (HSh.out.turn HDh.out hR1 ht)
        have HBi := hide (ht.below HBh.out HBh.out.size (by omega) (by omega) (by omega))
        have HPi := hide (ht.whole HPh.out (by omega) (by omega) (by omega))
        have HDi := hide hg
        have HUi := hide (HUh.out.away HDh.out ht (by omega))
        have HXi := hide (HXh.out.away HDh.out ht (by omega))
        have HYi := hide (HYh.out.away HDh.out ht (by omega))
        clear hg ht
        clear y0 y1 y2 ly
        obtain ⟨y0, y1, y2, ly⟩ := cells3 HPi.out
        go_wp2_with fail
        refine (scroll_any HDi.out hR1 hR2 hC1 hC2 HSi.out (-(nb : Int)) pf pg pb).mono ?_
        rintro e s4 ⟨rfl, Ls4, hg, ht, hL⟩
        have hz4 := ht.size
        have ltL4 : Ls4 < s4.heap.size := hg.ltL
        have HGj := hide (HGi.out.away HDi.out ht (by omega))
        have HSj := hide (HSi.out.turn HDi.out hR1 ht)
        have HBj := hide (ht.below HBi.out HBi.out.size (by omega) (by omega) (by omega))
        have HPj := hide (ht.whole HPi.out (by omega) (by omega) (by omega))
        have HDj := hide hg
        have HUj := hide (HUi.out.away HDi.out ht (by omega))
        have HXj := hide (HXi.out.away HDi.out ht (by omega))
        have HYj := hide (HYi.out.away HDi.out ht (by omega))
        clear hg ht
        clear y0 y1 y2 ly
        obtain ⟨y0, y1, y2, ly⟩ := cells3 HPj.out
        go_wp2_with fail
        refine (scroll_any HYj.out hR1 hR2 hC1 hC2 HSj.out (-(na : Int) - (nb : Int)) pf pg pb).mono ?_
        rintro e s5 ⟨rfl, Ls5, hg, ht, hL⟩
        have hz5 := ht.size
        have ltL5 : Ls5 < s5.heap.size := hg.ltL
        have HGk := hide (HGj.out.away HYj.out ht (by omega))
        have HSk := hide (HSj.out.turn HYj.out hR1 ht)
        have HBk := hide (ht.below HBj.out HBj.out.size (by omega) (by omega) (by omega))
        have HPk := hide (ht.whole HPj.out (by omega) (by omega) (by omega))
        have HYk := hide hg
        have HUk := hide (HUj.out.away HYj.out ht (by omega))
        have HDk := hide (HDj.out.away HYj.out ht (by omega))
        have HXk := hide (HXj.out.away HYj.out ht (by omega))
        clear hg ht
        clear y0 y1 y2 ly
        obtain ⟨y0, y1, y2, ly⟩ := cells3 HPk.out
        have HE1 : Hid (sameG (scrollG (scrollG g C (na : Int) ⟨pf, pg, pb⟩) C (nb : Int) ⟨pf, pg, pb⟩) (scrollG g C ((na : Int) + (nb : Int)) ⟨pf, pg, pb⟩) = true) := by unfold Hid; rw [scroll_up_twice]; exact sameG_self _
        have HE2 : Hid (sameG (scrollG (scrollG g C (-(na : Int)) ⟨pf, pg, pb⟩) C (-(nb : Int)) ⟨pf, pg, pb⟩) (scrollG g C (-(na : Int) - (nb : Int)) ⟨pf, pg, pb⟩) = true) := by unfold Hid; rw [scroll_down_twice]; exact sameG_self _
        have HE3 : Hid ((scrollG (scrollG g C (na : Int) ⟨pf, pg, pb⟩) C (nb : Int) ⟨pf, pg, pb⟩).row = g.row ∧ (scrollG (scrollG g C (na : Int) ⟨pf, pg, pb⟩) C (nb : Int) ⟨pf, pg, pb⟩).col = g.col) := by unfold Hid; exact ⟨(scroll_cursor _ _ _ _).1.trans (scroll_cursor _ _ _ _).1, (scroll_cursor _ _ _ _).2.trans (scroll_cursor _ _ _ _).2⟩
        clear y0 y1 y2 ly
        go_wp2_with fail
        refine (gknown_any _ HSk.out).mono ?_
        rintro e tl ⟨rfl, hb⟩
        have HGl := hide (HGk.out.later hb)
        have HSl := hide (HSk.out.below hb)
        have HBl := hide (HBk.out.trans (hb.mono HBk.out.size))
        have HUl := hide (HUk.out.later hb)
        have HDl := hide (HDk.out.later hb)
        have HXl := hide (HXk.out.later hb)
        have HYl := hide (HYk.out.later hb)
        clear hb
        go_wp2_with fail
        refine (gsame_any HUl.out HXl.out hR2 hR2 hC2).mono ?_
        rintro e tm ⟨rfl, hb⟩
        rw [HE1.out]
        have HGm := hide (HGl.out.later hb)
        have HSm := hide (HSl.out.below hb)
        have HBm := hide (HBl.out.trans (hb.mono HBl.out.size))
        have HUm := hide (HUl.out.later hb)
        have HDm := hide (HDl.out.later hb)
        have HXm := hide (HXl.out.later hb)
        have HYm := hide (HYl.out.later hb)
        clear hb
        go_wp2_with fail
        refine (gsame_any HDm.out HYm.out hR2 hR2 hC2).mono ?_
        rintro e tn ⟨rfl, hb⟩
        rw [HE2.out]
        have HGn := hide (HGm.out.later hb)
        have HSn := hide (HSm.out.below hb)
        have HBn := hide (HBm.out.trans (hb.mono HBm.out.size))
        have HUn := hide (HUm.out.later hb)
        have HDn := hide (HDm.out.later hb)
        have HXn := hide (HXm.out.later hb)
        have HYn := hide (HYm.out.later hb)
        clear hb
        go_wp2_with fail
        refine (row_any HUn.out).mono ?_
        rintro e t9 ⟨rfl, rfl⟩
        rw [HE3.out.1]
        go_wp2_with fail
        refine (row_any HGn.out).mono ?_
        rintro e t9 ⟨rfl, rfl⟩
        go_wp2_with fail
        refine (col_any HUn.out).mono ?_
        rintro e t9 ⟨rfl, rfl⟩
        rw [HE3.out.2]
        go_wp2_with fail
        refine (col_any HGn.out).mono ?_
        rintro e t9 ⟨rfl, rfl⟩
        go_wp2
        go_ret
        exact ⟨rfl, HBn.out⟩
    · obtain ⟨y0, y1, y2, ly⟩ := cells3 HPk.out
      have HGa := hide HX1.out.p.grd
      have HSa := hide HX1.out.sp
      have HBa := hide HX1.out.bel
      have HPa := HPk
      have hR1 := HX1.out.p.ok.r1
      have hR2 := HX1.out.p.ok.r2
      have hC1 := HX1.out.p.ok.c1
      have hC2 := HX1.out.p.ok.c2
      have lgG := HX1.out.p.grd.ltG
      have lgL := HX1.out.p.grd.ltL
      have lgM := HX1.out.p.grd.ltM
      have hB := HX1.out.bel.size
      have hPlt := HPk.out.lt
      go_wp2_with fail
      refine (copy_any HGa.out hR1 hR2 hC1 hC2).mono ?_
      rintro e v0 ⟨GU, LU, MU, rfl, hg, hb, n1, n2, n3⟩
      have bdU : wr.heap.size ≤ GU ∧ wr.heap.size ≤ LU ∧ wr.heap.size ≤ MU := ⟨n1, n2, n3⟩
      have ltU : GU < v0.heap.size ∧ LU < v0.heap.size ∧ MU < v0.heap.size := ⟨hg.ltG, hg.ltL, hg.ltM⟩
      have hs0 := hb.size
      have HGb := hide (HGa.out.later hb)
      have HSb := hide (HSa.out.below hb)
      have HBb := hide (HBa.out.trans (hb.mono HBa.out.size))
      have HPb := hide (HPa.out.later hb)
      have HUb := hide hg
      clear hg hb n1 n2 n3
      clear y0 y1 y2 ly
      obtain ⟨y0, y1, y2, ly⟩ := cells3 HPb.out
      go_wp2_with fail
      refine (copy_any HGb.out hR1 hR2 hC1 hC2).mono ?_
      rintro e v1 ⟨GD, LD, MD, rfl, hg, hb, n1, n2, n3⟩
      have bdD : v0.heap.size ≤ GD ∧ v0.heap.size ≤ LD ∧ v0.heap.size ≤ MD := ⟨n1, n2, n3⟩
      have ltD : GD < v1.heap.size ∧ LD < v1.heap.size ∧ MD < v1.heap.size := ⟨hg.ltG, hg.ltL, hg.ltM⟩
      have hs1 := hb.size
      have HGc := hide (HGb.out.later hb)
      have HSc := hide (HSb.out.below hb)
      have HBc := hide (HBb.out.trans (hb.mono HBb.out.size))
      have HPc := hide (HPb.out.later hb)
      have HDc := hide hg
      have HUc := hide (HUb.out.later hb)
      clear hg hb n1 n2 n3
      clear y0 y1 y2 ly
      obtain ⟨y0, y1, y2, ly⟩ := cells3 HPc.out
      go_wp2_with fail
      refine (copy_any HGc.out hR1 hR2 hC1 hC2).mono ?_
      rintro e v2 ⟨GX, LX, MX, rfl, hg, hb, n1, n2, n3⟩
      have bdX : v1.heap.size ≤ GX ∧ v1.heap.size ≤ LX ∧ v1.heap.size ≤ MX := ⟨n1, n2, n3⟩
      have ltX : GX < v2.heap.size ∧ LX < v2.heap.size ∧ MX < v2.heap.size := ⟨hg.ltG, hg.ltL, hg.ltM⟩
      have hs2 := hb.size
      have HGd := hide (HGc.out.later hb)
      have HSd := hide (HSc.out.below hb)
      have HBd := hide (HBc.out.trans (hb.mono HBc.out.size))
      have HPd := hide (HPc.out.later hb)
      have HXd := hide hg
      have HUd := hide (HUc.out.later hb)
      have HDd := hide (HDc.out.later hb)
      clear hg hb n1 n2 n3
      clear y0 y1 y2 ly
      obtain ⟨y0, y1, y2, ly⟩ := cells3 HPd.out
      go_wp2_with fail
      refine (copy_any HGd.out hR1 hR2 hC1 hC2).mono ?_
      rintro e v3 ⟨GY, LY, MY, rfl, hg, hb, n1, n2, n3⟩
      have bdY : v2.heap.size ≤ GY ∧ v2.heap.size ≤ LY ∧ v2.heap.size ≤ MY := ⟨n1, n2, n3⟩
      have ltY : GY < v3.heap.size ∧ LY < v3.heap.size ∧ MY < v3.heap.size := ⟨hg.ltG, hg.ltL, hg.ltM⟩
      have hs3 := hb.size
      have HGe := hide (HGd.out.later hb)
      have HSe := hide (HSd.out.below hb)
      have HBe := hide (HBd.out.trans (hb.mono HBd.out.size))
      have HPe := hide (HPd.out.later hb)
      have HYe := hide hg
      have HUe := hide (HUd.out.later hb)
      have HDe := hide (HDd.out.later hb)
      have HXe := hide (HXd.out.later hb)
      clear hg hb n1 n2 n3
      clear y0 y1 y2 ly
      obtain ⟨y0, y1, y2, ly⟩ := cells3 HPe.out
      go_wp2_with fail
      refine (scroll_any HUe.out hR1 hR2 hC1 hC2 HSe.out (na : Int) pf pg pb).mono ?_
      rintro e s0 ⟨rfl, Ls0, hg, ht, hL⟩
      have hz0 := ht.size
      have ltL0 : Ls0 < s0.heap.size := hg.ltL
      have HGf := hide (HGe.out.away HUe.out ht (by omega))
      have HSf := hide (HSe.out.turn HUe.out hR1 ht)
      have HBf := hide (ht.below HBe.out HBe.out.size (by omega) (by omega) (by omega))
      have HPf := hide (ht.whole HPe.out (by omega) (by omega) (by omega))
      have HUf := hide hg
      have HDf := hide (HDe.out.away HUe.out ht (by omega))
      have HXf := hide (HXe.out.away HUe.out ht (by omega))
      have HYf := hide (HYe.out.away HUe.out ht (by omega))
      clear hg ht
      clear y0 y1 y2 ly
      obtain ⟨y0, y1, y2, ly⟩ := cells3 HPf.out
      go_wp2_with fail
      refine (scroll_any HUf.out hR1 hR2 hC1 hC2 HSf.out (nb : Int) pf pg pb).mono ?_
      rintro e s1 ⟨rfl, Ls1, hg, ht, hL⟩
      have hz1 := ht.size
      have ltL1 : Ls1 < s1.heap.size := hg.ltL
      have HGg := hide (HGf.out.away HUf.out ht (by omega))
      have HSg := hide (HSf.out.turn HUf.out hR1 ht)
      have HBg := hide (ht.below HBf.out HBf.out.size (by omega) (by omega) (by omega))
      have HPg := hide (ht.whole HPf.out (by omega) (by omega) (by omega))
      have HUg := hide hg
      have HDg := hide (HDf.out.away HUf.out ht (by omega))
      have HXg := hide (HXf.out.away HUf.out ht (by omega))
      have HYg := hide (HYf.out.away HUf.out ht (by omega))
      clear hg ht
      clear y0 y1 y2 ly
      obtain ⟨y0, y1, y2, ly⟩ := cells3 HPg.out
      go_wp2_with fail
      refine (scroll_any HXg.out hR1 hR2 hC1 hC2 HSg.out ((na : Int) + (nb : Int)) pf pg pb).mono ?_
      rintro e s2 ⟨rfl, Ls2, hg, ht, hL⟩
      have hz2 := ht.size
      have ltL2 : Ls2 < s2.heap.size := hg.ltL
      have HGh := hide (HGg.out.away HXg.out ht (by omega))
      have HSh := hide (HSg.out.turn HXg.out hR1 ht)
      have HBh := hide (ht.below HBg.out HBg.out.size (by omega) (by omega) (by omega))
      have HPh := hide (ht.whole HPg.out (by omega) (by omega) (by omega))
      have HXh := hide hg
      have HUh := hide (HUg.out.away HXg.out ht (by omega))
      have HDh := hide (HDg.out.away HXg.out ht (by omega))
      have HYh := hide (HYg.out.away HXg.out ht (by omega))
      clear hg ht
      clear y0 y1 y2 ly
      obtain ⟨y0, y1, y2, ly⟩ := cells3 HPh.out
      go_wp2_with fail
      refine (scroll_any HDh.out hR1 hR2 hC1 hC2 HSh.out (-(na : Int)) pf pg pb).mono ?_
      rintro e s3 ⟨rfl, Ls3, hg, ht, hL⟩
      have hz3 := ht.size
      have ltL3 : Ls3 < s3.heap.size := hg.ltL
      have HGi := hide (HGh.out.away HDh.out ht (by omega))
      have HSi := hide (HSh.out.turn HDh.out hR1 ht)
      have HBi := hide (ht.below HBh.out HBh.out.size (by omega) (by omega) (by omega))
      have HPi := hide (ht.whole HPh.out (by omega) (by omega) (by omega))
      have HDi := hide hg
      have HUi := hide (HUh.out.away HDh.out ht (by omega))
      have HXi := hide (HXh.out.away HDh.out ht (by omega))
      have HYi := hide (HYh.out.away HDh.out ht (by omega))
      clear hg ht
      clear y0 y1 y2 ly
      obtain ⟨y0, y1, y2, ly⟩ := cells3 HPi.out
      go_wp2_with fail
      refine (scroll_any HDi.out hR1 hR2 hC1 hC2 HSi.out (-(nb : Int)) pf pg pb).mono ?_
      rintro e s4 ⟨rfl, Ls4, hg, ht, hL⟩
      have hz4 := ht.size
      have ltL4 : Ls4 < s4.heap.size := hg.ltL
      have HGj := hide (HGi.out.away HDi.out ht (by omega))
      have HSj := hide (HSi.out.turn HDi.out hR1 ht)
      have HBj := hide (ht.below HBi.out HBi.out.size (by omega) (by omega) (by omega))
      have HPj := hide (ht.whole HPi.out (by omega) (by omega) (by omega))
      have HDj := hide hg
      have HUj := hide (HUi.out.away HDi.out ht (by omega))
      have HXj := hide (HXi.out.away HDi.out ht (by omega))
      have HYj := hide (HYi.out.away HDi.out ht (by omega))
      clear hg ht
      clear y0 y1 y2 ly
      obtain ⟨y0, y1, y2, ly⟩ := cells3 HPj.out
      go_wp2_with fail
      refine (scroll_any HYj.out hR1 hR2 hC1 hC2 HSj.out (-(na : Int) - (nb : Int)) pf pg pb).mono ?_
      rintro e s5 ⟨rfl, Ls5, hg, ht, hL⟩
      have hz5 := ht.size
      have ltL5 : Ls5 < s5.heap.size := hg.ltL
      have HGk := hide (HGj.out.away HYj.out ht (by omega))
      have HSk := hide (HSj.out.turn HYj.out hR1 ht)
      have HBk := hide (ht.below HBj.out HBj.out.size (by omega) (by omega) (by omega))
      have HPk := hide (ht.whole HPj.out (by omega) (by omega) (by omega))
      have HYk := hide hg
      have HUk := hide (HUj.out.away HYj.out ht (by omega))
      have HDk := hide (HDj.out.away HYj.out ht (by omega))
      have HXk := hide (HXj.out.away HYj.out ht (by omega))
      clear hg ht
      clear y0 y1 y2 ly
      obtain ⟨y0, y1, y2, ly⟩ := cells3 HPk.out
      have HE1 : Hid (sameG (scrollG (scrollG g C (na : Int) ⟨pf, pg, pb⟩) C (nb : Int) ⟨pf, pg, pb⟩) (scrollG g C ((na : Int) + (nb : Int)) ⟨pf, pg, pb⟩) = true) := by unfold Hid; rw [scroll_up_twice]; exact sameG_self _
      have HE2 : Hid (sameG (scrollG (scrollG g C (-(na : Int)) ⟨pf, pg, pb⟩) C (-(nb : Int)) ⟨pf, pg, pb⟩) (scrollG g C (-(na : Int) - (nb : Int)) ⟨pf, pg, pb⟩) = true) := by unfold Hid; rw [scroll_down_twice]; exact sameG_self _
      have HE3 : Hid ((scrollG (scrollG g C (na : Int) ⟨pf, pg, pb⟩) C (nb : Int) ⟨pf, pg, pb⟩).row = g.row ∧ (scrollG (scrollG g C (na : Int) ⟨pf, pg, pb⟩) C (nb : Int) ⟨pf, pg, pb⟩).col = g.col) := by unfold Hid; exact ⟨(scroll_cursor _ _ _ _).1.trans (scroll_cursor _ _ _ _).1, (scroll_cursor _ _ _ _).2.trans (scroll_cursor _ _ _ _).2⟩
      clear y0 y1 y2 ly
      go_wp2_with fail
      refine (gknown_any _ HSk.out).mono ?_
      rintro e tl ⟨rfl, hb⟩
      have HGl := hide (HGk.out.later hb)
      have HSl := hide (HSk.out.below hb)
      have HBl := hide (HBk.out.trans (hb.mono HBk.out.size))
      have HUl := hide (HUk.out.later hb)
      have HDl := hide (HDk.out.later hb)
      have HXl := hide (HXk.out.later hb)
      have HYl := hide (HYk.out.later hb)
      clear hb
      go_wp2_with fail
      refine (gsame_any HUl.out HXl.out hR2 hR2 hC2).mono ?_
      rintro e tm ⟨rfl, hb⟩
      rw [HE1.out]
      have HGm := hide (HGl.out.later hb)
      have HSm := hide (HSl.out.below hb)
      have HBm := hide (HBl.out.trans (hb.mono HBl.out.size))
      have HUm := hide (HUl.out.later hb)
      have HDm := hide (HDl.out.later hb)
      have HXm := hide (HXl.out.later hb)
      have HYm := hide (HYl.out.later hb)
      clear hb
      go_wp2_with fail
      refine (gsame_any HDm.out HYm.out hR2 hR2 hC2).mono ?_
      rintro e tn ⟨rfl, hb⟩
      rw [HE2.out]
      have HGn := hide (HGm.out.later hb)
      have HSn := hide (HSm.out.below hb)
      have HBn := hide (HBm.out.trans (hb.mono HBm.out.size))
      have HUn := hide (HUm.out.later hb)
      have HDn := hide (HDm.out.later hb)
      have HXn := hide (HXm.out.later hb)
      have HYn := hide (HYm.out.later hb)
      clear hb
      go_wp2_with fail
      refine (row_any HUn.out).mono ?_
      rintro e t9 ⟨rfl, rfl⟩
      rw [HE3.out.1]
      go_wp2_with fail
      refine (row_any HGn.out).mono ?_
      rintro e t9 ⟨rfl, rfl⟩
      go_wp2_with fail
      refine (col_any HUn.out).mono ?_
      rintro e t9 ⟨rfl, rfl⟩
      rw [HE3.out.2]
      go_wp2_with fail
      refine (col_any HGn.out).mono ?_
      rintro e t9 ⟨rfl, rfl⟩
      go_wp2
      go_ret
      exact ⟨rfl, HBn.out⟩
end Go.Proofs.YtiifeniijcnahaaDoor
