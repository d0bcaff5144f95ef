/-
  The walk of the law FrameLong.
-/
import Derived.Test.YtcbdokocnjoilaaDoorFrWalkP
namespace Go.Proofs.YtcbdokocnjoilaaDoor
set_option maxRecDepth 100000
open Go.ChangeShapes Go.WideShapes Go.ChangeAt Go.RowKit
set_option linter.unusedVariables false

theorem whole_owned_u8 {w : World} {B : Nat} {e : TypeId} {g n : Nat} {xs : List Value} (h : w.ownsRow B e 1 (.slice (some ⟨g, 0, none⟩) n n) n xs) : Whole w g e xs := by
  rcases h.2 with ⟨h', _⟩ | ⟨g', cap', cur, h', hb, hg, hnc, hcm, hcs, htake⟩
  · cases h'
  · simp only [Value.slice.injEq, Option.some.injEq, Addr.mk.injEq, and_true, true_and] at h'
    obtain ⟨rfl, rfl⟩ := h'
    rw [List.take_of_length_le (Nat.le_of_eq (by rw [Array.length_toList, hcs]))] at htake
    subst htake
    exact hg
theorem zeros_u8 (n : Nat) : (madeCells #[Value.int .u8 0] n).toList = List.replicate n (.int .u8 0) := by
  apply List.ext_getElem?
  intro j
  by_cases hj : j < n
  · simp only [madeCells, Array.toList_map, List.getElem?_map, Array.toList_range, List.getElem?_range hj, Option.map_some, List.getElem?_replicate, if_pos hj]
    simp [Nat.mod_one]
  · rw [List.getElem?_eq_none (by rw [Array.length_toList, size_madeCells]; omega), List.getElem?_eq_none (by simp; omega)]
/-- 'make([]byte, n)'. -/
theorem wpList_makeB {ops : Array Oper} {rest : List Oper} {o : Oper} {a : Act} {w : World} {Q : Exit → Act → World → Prop} (hg : o.guard = none) (x y : Operand) (hop : o.op = .makeSlice 22 x y)
    (n : Nat) (hx : a.eval x = .int .i64 (n : Int)) (hy : a.eval y = .int .i64 (n : Int)) (hn : n ≤ 1000000)
    (h : ∀ w', Whole w' w.heap.size 5 (List.replicate n (.int .u8 0)) → Below w.heap.size w w' → wpList Tryd.prog ops Q rest (a.put o.dst (.slice (some ⟨w.heap.size, 0, none⟩) n n)) w') : wpList Tryd.prog ops Q (o :: rest) a w := by
  obtain ⟨i0, hi, hz0, hz1, hz2⟩ := info_parts elemBytes.info
  refine wpList_make_full w hg x y 22 hop w.heap.size 5 i0 _ 1 elemBytes.under hi hz0 hz1 .i64 .i64 n n n hx hy rfl rfl (by rw [hz2]; omega) (by unfold maxLen; omega) (Nat.le_refl _) ?_
  intro w' ho hgr
  have hw := whole_owned_u8 ho
  rw [show (Value.int .u8 0).cells = #[Value.int .u8 0] from rfl, Nat.mul_one, zeros_u8] at hw
  exact h w' hw ⟨hgr.os, hgr.tape, hgr.output, hgr.size, fun i hi => hgr.block i hi (by simp)⟩
/-- So many bytes laid, the others zero. -/
def fillTo (b : Int) (K j : Nat) : List Value := List.replicate j (.int .u8 b) ++ List.replicate (K - j) (.int .u8 0)
theorem fill_len (b : Int) (K j : Nat) (h : j ≤ K) : (fillTo b K j).length = K := by unfold fillTo; rw [List.length_append, List.length_replicate, List.length_replicate]; omega
theorem fill_get (b : Int) (K j : Nat) (h : j < K) : (fillTo b K j)[j]? = some (.int .u8 0) := by
  unfold fillTo
  rw [List.getElem?_append_right (by simp), List.length_replicate, Nat.sub_self, List.getElem?_replicate, if_pos (by omega)]
theorem fill_set (b : Int) (K j : Nat) (h : j < K) : (fillTo b K j).set j (.int .u8 b) = fillTo b K (j + 1) := by
  apply List.ext_getElem?
  intro i
  rw [List.getElem?_set, fill_len b K j (by omega)]
  unfold fillTo
  by_cases q : j = i
  · subst q
    rw [if_pos rfl, if_pos h, List.getElem?_append_left (by simp), List.getElem?_replicate, if_pos (by omega)]
  · rw [if_neg q]
    by_cases q2 : i < j
    · rw [List.getElem?_append_left (by simpa using q2), List.getElem?_append_left (by simp; omega), List.getElem?_replicate, List.getElem?_replicate, if_pos q2, if_pos (by omega)]
    · rw [List.getElem?_append_right (by simp; omega), List.getElem?_append_right (by simp; omega), List.length_replicate, List.length_replicate, List.getElem?_replicate, List.getElem?_replicate]
      by_cases q3 : i < K
      · rw [if_pos (by omega), if_pos (by omega)]
      · rw [if_neg (by omega), if_neg (by omega)]
theorem fill_ints {w : World} {q : Nat} {t : TypeId} {b : Int} {K : Nat} (h : Whole w q t (fillTo b K K)) : Ints .u8 w (some ⟨q, 0, none⟩) (List.replicate K b) := by
  refine .inr ⟨q, 0, rfl, fun i hi => ?_⟩
  rw [List.length_replicate] at hi
  rw [Nat.zero_add, h.cell i]
  unfold fillTo
  rw [List.getElem?_append_left (by simpa using hi), List.getElem?_replicate, if_pos hi, List.getD_eq_getElem?_getD, List.getElem?_replicate, if_pos hi]
  rfl
set_option maxHeartbeats 8000000 in
theorem frameLong_walk (n0 : Int) (mo : Nat) (hmo : mo < 256) (w : World) (hn0 : (Lit.int .i64 n0).wf = true) (hS : Spans w) :
    Calls Tryd.prog 4 #[.int .i64 n0, .int .u8 (mo : Int)] w fun e w' => e = .returned (.bool true) ∧ Below w.heap.size w w' := by
  have HS := hide hS
  have hbat := i64_bd hn0
  obtain ⟨C1, hC1⟩ : ∃ C1, IntKind.u64.wrap n0 = C1 := ⟨_, rfl⟩
  have p1 : 0 ≤ C1 := by rw [← hC1, IntKind.wrap_u64]; omega
  obtain ⟨Rr, hR, hRL⟩ : ∃ Rr : Nat, C1.tmod ((100 : Nat) : Int) = (Rr : Int) ∧ Rr < 100 := by
    refine ⟨(C1.tmod ((100 : Nat) : Int)).toNat, ?_, ?_⟩
    · have := Int.tmod_nonneg ((100 : Nat) : Int) p1; omega
    · have h1 := Int.tmod_lt_of_pos C1 (show (0 : Int) < ((100 : Nat) : Int) by omega); have := Int.tmod_nonneg ((100 : Nat) : Int) p1; omega
  have HR0 := hide hR
  clear hS hn0 hR
  obtain ⟨hb1, hb2⟩ := hbat
  go_enter Tryd.func4, Tryd.ntmps4
  go_wp2_with (first | (with_reducible refine wpList_val (o := ⟨some 14, _, _, _, _, _⟩) rfl (v := .int .u64 (Rr : Int)) ?_ ?_) | (at_make; refine stopw ?_))
  · exact exec_binop (v2 := .int .u64 ((100 : Nat) : Int)) rfl rfl rfl rfl (run_rem_nat (P := Tryd.prog) w 23 .u64 C1 100 Rr (by omega) HR0.out)
  clear hC1 p1 hb1 hb2
  obtain ⟨K, hK, hK1, hK2⟩ : ∃ K : Nat, (65500 : Int) + (Rr : Int) = (K : Int) ∧ 65500 ≤ K ∧ K ≤ 65599 := ⟨65500 + Rr, by omega, by omega, by omega⟩
  rw [hK]
  clear hK
  unfold Hid
  refine wpList_makeB rfl _ _ rfl K rfl rfl (by omega) ?_
  intro w1 hw hb
  obtain ⟨q, hq⟩ : ∃ q, w.heap.size = q := ⟨_, rfl⟩
  rw [hq] at hw ⊢
  have HQ : Hid (w.heap.size ≤ q) := by unfold Hid; omega
  have HF : Hid (Whole w1 q 5 (fillTo (mo : Int) K 0)) := by unfold Hid fillTo; simpa using hw
  have HB := hide hb
  clear hw hb hq
  go_wp2
  go_loopw [7] (fun i wr => ∃ j : Nat, j ≤ K ∧ i = .int .i64 j ∧ Hid (Whole wr q 5 (fillTo (mo : Int) K j)) ∧ Hid (Below w.heap.size w wr)) (fun i _ => K - (intOf i).toNat)
  case atStart => exact ⟨0, Nat.zero_le _, rfl, HF, HB⟩
  case round =>
    clear HF HB
    obtain ⟨j, hj, rfl, HF, HB⟩ := hrel
    by_cases hlt : j < K
    · have y0 : wr.cell? ⟨q, j, none⟩ = some (.int .u8 0) := by rw [HF.out.cell]; exact fill_get (mo : Int) K j hlt
      have yz := HF.out.frozen j
      have yl := HF.out.lt
      have HF2 : Hid (Whole (wr.setCell ⟨q, j, none⟩ (.int .u8 (mo : Int))) q 5 (fillTo (mo : Int) K (j + 1))) := by unfold Hid; rw [← fill_set (mo : Int) K j hlt]; exact HF.out.put j _
      have HB2 := hide (HB.out.setCell (p := ⟨q, j, none⟩) HQ.out (.int .u8 (mo : Int)))
      go_wp2
      go_roundw
      case rel => exact ⟨j + 1, by omega, by go_num, HF2, HB2⟩
      case measure => simp [intOf]; omega
    · obtain rfl : j = K := by omega
      obtain ⟨xs, hxs⟩ : ∃ xs, List.replicate j (mo : Int) = xs := ⟨_, rfl⟩
      have hi := fill_ints HF.out
      rw [hxs] at hi
      have HI := hide hi
      have HN : Hid (xs.length = j) := by unfold Hid; rw [← hxs]; exact List.length_replicate
      have HBY : Hid (Byte xs) := by unfold Hid; rw [← hxs]; intro x hx; have := List.eq_of_mem_replicate hx; omega
      have hgp := good_frame HBY.out
      have hlong : 65536 < j → (parseFm xs).2 = 2 := fun h => by unfold parseFm; rw [if_pos (by rw [HN.out]; exact h)]
      obtain ⟨⟨ps, D⟩, hPX⟩ : ∃ X, parseFm xs = X := ⟨_, rfl⟩
      rw [hPX] at hgp hlong
      simp only at hgp hlong
      have HPX := hide hPX
      have HGP := hide hgp
      have HLG := hide hlong
      obtain ⟨n5, hn5⟩ : ∃ n, ps.d.ss.length = n := ⟨_, rfl⟩
      have HPN := hide hn5
      have HPM : Hid (n5 ≤ 1000000) := by unfold Hid; have := HGP.out.many; omega
      clear hi hgp hPX hlong hn5 hxs hlt hj
      go_wp2_with fail
      refine (frparse_any (some ⟨q, 0, none⟩) j j xs wr HI.out HN.out (fun z => by cases z) (Nat.le_refl _) (by omega) HBY.out (HS.out.below HB.out)).mono ?_
      rw [HPX.out]
      rintro e u1 ⟨A5, c5, rfl, hc, hb⟩
      simp only at hc
      simp only
      rw [HPN.out]
      obtain ⟨w1, hw1⟩ : ∃ w1, u1.alloc (.cells #[.int .u64 ps.num, .int .u64 ps.base, .int .u64 ps.echo, .int .u64 ps.stamp, .int .i64 ps.d.rows, .int .i64 ps.d.cols, .int .i64 ps.d.row, .int .i64 ps.d.col, .slice A5 n5 c5] 28) = w1 := ⟨_, rfl⟩
      have hb' : Below u1.heap.size u1 w1 := by rw [← hw1]; exact new1W _ _
      have HQ5 : Hid (Whole w1 u1.heap.size 28 [.int .u64 ps.num, .int .u64 ps.base, .int .u64 ps.echo, .int .u64 ps.stamp, .int .i64 ps.d.rows, .int .i64 ps.d.cols, .int .i64 ps.d.row, .int .i64 ps.d.col, .slice A5 n5 c5]) := by unfold Hid; rw [← hw1]; exact Whole.new u1 28 [.int .u64 ps.num, .int .u64 ps.base, .int .u64 ps.echo, .int .u64 ps.stamp, .int .i64 ps.d.rows, .int .i64 ps.d.cols, .int .i64 ps.d.row, .int .i64 ps.d.col, .slice A5 n5 c5]
      have hbw := hb.trans (hb'.mono hb.size)
      have HB1 := hide (HB.out.trans (hbw.mono HB.out.size))
      have HI1 := hide (HI.out.below hbw)
      have HP1 := hide (hc.below hb')
      have HW1 := hide hw1
      clear hb hc hb' hw1 hbw
      go_wp2_with fail
      rw [HW1.out]
      refine (rfrparse_any (some ⟨q, 0, none⟩) j j xs w1 HI1.out HN.out (Nat.le_refl _) (by omega) HBY.out).mono ?_
      rw [HPX.out]
      rintro e u2 ⟨A7, c7, rfl, hc, hb⟩
      simp only at hc
      simp only
      rw [HPN.out]
      obtain ⟨w2, hw2⟩ : ∃ w2, u2.alloc (.cells #[.int .u64 ps.num, .int .u64 ps.base, .int .u64 ps.echo, .int .u64 ps.stamp, .int .i64 ps.d.rows, .int .i64 ps.d.cols, .int .i64 ps.d.row, .int .i64 ps.d.col, .slice A7 n5 c7] 36) = w2 := ⟨_, rfl⟩
      have hb' : Below u2.heap.size u2 w2 := by rw [← hw2]; exact new1W _ _
      have HQ7 : Hid (Whole w2 u2.heap.size 36 [.int .u64 ps.num, .int .u64 ps.base, .int .u64 ps.echo, .int .u64 ps.stamp, .int .i64 ps.d.rows, .int .i64 ps.d.cols, .int .i64 ps.d.row, .int .i64 ps.d.col, .slice A7 n5 c7]) := by unfold Hid; rw [← hw2]; exact Whole.new u2 36 [.int .u64 ps.num, .int .u64 ps.base, .int .u64 ps.echo, .int .u64 ps.stamp, .int .i64 ps.d.rows, .int .i64 ps.d.cols, .int .i64 ps.d.row, .int .i64 ps.d.col, .slice A7 n5 c7]
      have HV2 := hide (hb.trans (hb'.mono hb.size))
      have HE2 := hide (hc.below hb')
      have HW2 := hide hw2
      clear hb hc hb' hw2
      have e0 : (D == D) = true := by simp
      go_upto_region 9 with fail
      rw [HW2.out]
      clear HW1 HW2 HI1 HI HB HF
      by_cases hl : j ≤ 65536
      · have e1 : decide (j ≤ 65536) = true := decide_eq_true hl
        have e2 : decide ((j : Int) ≤ 65536) = true := decide_eq_true (by omega)
        clear hl
        refine rgH (fun w' => Whole w' u1.heap.size 28 [.int .u64 ps.num, .int .u64 ps.base, .int .u64 ps.echo, .int .u64 ps.stamp, .int .i64 ps.d.rows, .int .i64 ps.d.cols, .int .i64 ps.d.row, .int .i64 ps.d.col, .slice A5 n5 c5] ∧ Whole w' u2.heap.size 36 [.int .u64 ps.num, .int .u64 ps.base, .int .u64 ps.echo, .int .u64 ps.stamp, .int .i64 ps.d.rows, .int .i64 ps.d.cols, .int .i64 ps.d.row, .int .i64 ps.d.col, .slice A7 n5 c7]) [(false, 0), (false, 1), (true, 2), (false, 3), (false, 4), (false, 5), (false, 6), (true, 7), (true, 9), (false, 8), (false, 10), (false, 11), (false, 12), (false, 13), (false, 14), (false, 15), (false, 16), (false, 17), (false, 18), (false, 19), (false, 20)] (⟨HQ5.out.later (HV2.out.trans (((Below.refl w2.heap.size w2).drewN 1).mono HV2.out.size)), HQ7.out.later ((Below.refl _ _).drewN 1)⟩) ?_
        have B0 : Hid (Below w2.heap.size w2 w2.drew) := (Below.refl _ _).drewN 1
        generalize w2.drew = k0 at *
        refine alH fun K hK => ?_
        go_wp2_with fail
        refine (frknown_any k0 (HS.out.below (HB1.out.trans ((HV2.out.trans (B0.out.mono HV2.out.size)).mono HB1.out.size)))).mono ?_
        rintro e k1 ⟨rfl, hb⟩
        have B1 := hide (B0.out.trans (hb.mono B0.out.size))
        clear hb
        go_wp2
        refine hK.out _ _ (⟨HQ5.out.later (HV2.out.trans (B1.out.mono HV2.out.size)), HQ7.out.later B1.out⟩) ?_
        clear hK K
        refine alH fun K hK => ?_
        go_wp2
        refine hK.out _ _ (⟨HQ5.out.later (HV2.out.trans (B1.out.mono HV2.out.size)), HQ7.out.later B1.out⟩) ?_
        clear hK K
        refine stH (h := ?_)
        refine alH fun K hK => ?_
        go_wp2
        refine hK.out _ _ (⟨HQ5.out.later (HV2.out.trans (B1.out.mono HV2.out.size)), HQ7.out.later B1.out⟩) ?_
        clear hK K
        refine alH fun K hK => ?_
        go_wp2
        refine hK.out _ _ (⟨HQ5.out.later (HV2.out.trans (B1.out.mono HV2.out.size)), HQ7.out.later B1.out⟩) ?_
        clear hK K
        refine alH fun K hK => ?_
        go_wp2
        refine hK.out _ _ (⟨HQ5.out.later (HV2.out.trans (B1.out.mono HV2.out.size)), HQ7.out.later B1.out⟩) ?_
        clear hK K
        refine alH fun K hK => ?_
        go_wp2
        refine hK.out _ _ (⟨HQ5.out.later (HV2.out.trans (B1.out.mono HV2.out.size)), HQ7.out.later B1.out⟩) ?_
        clear hK K
        refine stH (hy := fun w hS => by obtain ⟨f0, f1, f2, f3, f4, f5, f6, f7, f8, -⟩ := cells9 hS.1; go_simp <;> with_reducible rfl) (h := ?_)
        refine stH (hy := fun w hS => by obtain ⟨f0, f1, f2, f3, f4, f5, f6, f7, f8, -⟩ := cells9 hS.2; go_simp <;> with_reducible rfl) (h := ?_)
        refine alH fun K hK => ?_
        go_wp2_with fail
        refine (frof_any 0 88 127 ps A5 n5 c5 k1 ((HP1.out.below HV2.out).below B1.out).sps (Nat.zero_le _) HPN.out HPM.out HGP.out.each HGP.out.lb).mono ?_
        rintro e k2 ⟨A8, c8, rfl, hd, hb⟩
        rw [HPN.out]
        have B2 := hide (B1.out.trans (hb.mono B1.out.size))
        have HD8 := hide hd
        clear hd hb
        go_wp2
        refine hK.out _ _ (⟨HQ5.out.later (HV2.out.trans (B2.out.mono HV2.out.size)), HQ7.out.later B2.out⟩) ?_
        clear hK K
        refine alH fun K hK => ?_
        go_wp2_with fail
        refine (rfrsame_any 0 0 81 118 81 118 ps ps A8 A7 n5 n5 c8 c7 k2 HD8.out.sps (HE2.out.below B2.out).sps (Nat.zero_le _) (Nat.zero_le _) HPN.out HPN.out HPM.out HGP.out.each).mono ?_
        rintro e k3 ⟨rfl, hb⟩
        rw [fm_self]
        have B3 := hide (B2.out.trans (hb.mono B2.out.size))
        clear hb
        go_wp2
        refine hK.out _ _ (⟨HQ5.out.later (HV2.out.trans (B3.out.mono HV2.out.size)), HQ7.out.later B3.out⟩) ?_
        clear hK K
        refine alH fun K hK => ?_
        go_wp2
        refine hK.out _ _ (⟨HQ5.out.later (HV2.out.trans (B3.out.mono HV2.out.size)), HQ7.out.later B3.out⟩) ?_
        clear hK K
        refine alH fun K hK => ?_
        go_wp2
        refine hK.out _ _ (⟨HQ5.out.later (HV2.out.trans (B3.out.mono HV2.out.size)), HQ7.out.later B3.out⟩) ?_
        clear hK K
        refine alH fun K hK => ?_
        go_wp2
        refine hK.out _ _ (⟨HQ5.out.later (HV2.out.trans (B3.out.mono HV2.out.size)), HQ7.out.later B3.out⟩) ?_
        clear hK K
        refine alH fun K hK => ?_
        go_wp2
        refine hK.out _ _ (⟨HQ5.out.later (HV2.out.trans (B3.out.mono HV2.out.size)), HQ7.out.later B3.out⟩) ?_
        clear hK K
        refine alH fun K hK => ?_
        go_wp2
        refine hK.out _ _ (⟨HQ5.out.later (HV2.out.trans (B3.out.mono HV2.out.size)), HQ7.out.later B3.out⟩) ?_
        clear hK K
        iterate 2 refine paH (⟨HQ5.out.later (HV2.out.trans (B3.out.mono HV2.out.size)), HQ7.out.later B3.out⟩) (h := ?_)
        refine alH fun K hK => ?_
        go_wp2
        refine hK.out _ _ (⟨HQ5.out.later (HV2.out.trans (B3.out.mono HV2.out.size)), HQ7.out.later B3.out⟩) ?_
        clear hK K
        refine alH fun K hK => ?_
        go_wp2
        refine hK.out _ _ (⟨HQ5.out.later (HV2.out.trans (B3.out.mono HV2.out.size)), HQ7.out.later B3.out⟩) ?_
        clear hK K
        refine alH fun K hK => ?_
        go_wp2
        refine hK.out _ _ (⟨HQ5.out.later (HV2.out.trans (B3.out.mono HV2.out.size)), HQ7.out.later B3.out⟩) ?_
        clear hK K
        refine chainH_nil ?_
        have HVf := hide (HV2.out.trans (B3.out.mono HV2.out.size))
        have HBf := hide (HB1.out.trans (HVf.out.mono HB1.out.size))
        go_wp2
        go_ret
        exact ⟨rfl, HBf.out⟩
      · have e1 : decide (j ≤ 65536) = false := decide_eq_false hl
        have e2 : decide ((j : Int) ≤ 65536) = false := decide_eq_false (by omega)
        have e3 : (D == 2) = true := by have := HLG.out (by omega); simpa using this
        clear hl
        refine rgH (fun w' => Whole w' u1.heap.size 28 [.int .u64 ps.num, .int .u64 ps.base, .int .u64 ps.echo, .int .u64 ps.stamp, .int .i64 ps.d.rows, .int .i64 ps.d.cols, .int .i64 ps.d.row, .int .i64 ps.d.col, .slice A5 n5 c5] ∧ Whole w' u2.heap.size 36 [.int .u64 ps.num, .int .u64 ps.base, .int .u64 ps.echo, .int .u64 ps.stamp, .int .i64 ps.d.rows, .int .i64 ps.d.cols, .int .i64 ps.d.row, .int .i64 ps.d.col, .slice A7 n5 c7]) [(false, 0), (false, 1), (true, 2), (false, 3), (false, 4), (false, 5), (false, 6), (true, 7), (true, 9), (false, 8), (false, 10), (false, 11), (false, 12), (false, 13), (false, 14), (false, 15), (false, 16), (false, 17), (false, 18), (false, 19), (false, 20)] (⟨HQ5.out.later (HV2.out.trans (((Below.refl w2.heap.size w2).drewN 1).mono HV2.out.size)), HQ7.out.later ((Below.refl _ _).drewN 1)⟩) ?_
        have B0 : Hid (Below w2.heap.size w2 w2.drew) := (Below.refl _ _).drewN 1
        generalize w2.drew = k0 at *
        refine alH fun K hK => ?_
        go_wp2_with fail
        refine (frknown_any k0 (HS.out.below (HB1.out.trans ((HV2.out.trans (B0.out.mono HV2.out.size)).mono HB1.out.size)))).mono ?_
        rintro e k1 ⟨rfl, hb⟩
        have B1 := hide (B0.out.trans (hb.mono B0.out.size))
        clear hb
        go_wp2
        refine hK.out _ _ (⟨HQ5.out.later (HV2.out.trans (B1.out.mono HV2.out.size)), HQ7.out.later B1.out⟩) ?_
        clear hK K
        refine alH fun K hK => ?_
        go_wp2
        refine hK.out _ _ (⟨HQ5.out.later (HV2.out.trans (B1.out.mono HV2.out.size)), HQ7.out.later B1.out⟩) ?_
        clear hK K
        refine stH (h := ?_)
        refine alH fun K hK => ?_
        go_wp2
        refine hK.out _ _ (⟨HQ5.out.later (HV2.out.trans (B1.out.mono HV2.out.size)), HQ7.out.later B1.out⟩) ?_
        clear hK K
        refine alH fun K hK => ?_
        go_wp2
        refine hK.out _ _ (⟨HQ5.out.later (HV2.out.trans (B1.out.mono HV2.out.size)), HQ7.out.later B1.out⟩) ?_
        clear hK K
        refine alH fun K hK => ?_
        go_wp2
        refine hK.out _ _ (⟨HQ5.out.later (HV2.out.trans (B1.out.mono HV2.out.size)), HQ7.out.later B1.out⟩) ?_
        clear hK K
        refine alH fun K hK => ?_
        go_wp2
        refine hK.out _ _ (⟨HQ5.out.later (HV2.out.trans (B1.out.mono HV2.out.size)), HQ7.out.later B1.out⟩) ?_
        clear hK K
        refine stH (hy := fun w hS => by obtain ⟨f0, f1, f2, f3, f4, f5, f6, f7, f8, -⟩ := cells9 hS.1; go_simp <;> with_reducible rfl) (h := ?_)
        refine stH (hy := fun w hS => by obtain ⟨f0, f1, f2, f3, f4, f5, f6, f7, f8, -⟩ := cells9 hS.2; go_simp <;> with_reducible rfl) (h := ?_)
        refine alH fun K hK => ?_
        go_wp2_with fail
        refine (frof_any 0 88 127 ps A5 n5 c5 k1 ((HP1.out.below HV2.out).below B1.out).sps (Nat.zero_le _) HPN.out HPM.out HGP.out.each HGP.out.lb).mono ?_
        rintro e k2 ⟨A8, c8, rfl, hd, hb⟩
        rw [HPN.out]
        have B2 := hide (B1.out.trans (hb.mono B1.out.size))
        have HD8 := hide hd
        clear hd hb
        go_wp2
        refine hK.out _ _ (⟨HQ5.out.later (HV2.out.trans (B2.out.mono HV2.out.size)), HQ7.out.later B2.out⟩) ?_
        clear hK K
        refine alH fun K hK => ?_
        go_wp2_with fail
        refine (rfrsame_any 0 0 81 118 81 118 ps ps A8 A7 n5 n5 c8 c7 k2 HD8.out.sps (HE2.out.below B2.out).sps (Nat.zero_le _) (Nat.zero_le _) HPN.out HPN.out HPM.out HGP.out.each).mono ?_
        rintro e k3 ⟨rfl, hb⟩
        rw [fm_self]
        have B3 := hide (B2.out.trans (hb.mono B2.out.size))
        clear hb
        go_wp2
        refine hK.out _ _ (⟨HQ5.out.later (HV2.out.trans (B3.out.mono HV2.out.size)), HQ7.out.later B3.out⟩) ?_
        clear hK K
        refine alH fun K hK => ?_
        go_wp2
        refine hK.out _ _ (⟨HQ5.out.later (HV2.out.trans (B3.out.mono HV2.out.size)), HQ7.out.later B3.out⟩) ?_
        clear hK K
        refine alH fun K hK => ?_
        go_wp2
        refine hK.out _ _ (⟨HQ5.out.later (HV2.out.trans (B3.out.mono HV2.out.size)), HQ7.out.later B3.out⟩) ?_
        clear hK K
        refine alH fun K hK => ?_
        go_wp2
        refine hK.out _ _ (⟨HQ5.out.later (HV2.out.trans (B3.out.mono HV2.out.size)), HQ7.out.later B3.out⟩) ?_
        clear hK K
        refine alH fun K hK => ?_
        go_wp2
        refine hK.out _ _ (⟨HQ5.out.later (HV2.out.trans (B3.out.mono HV2.out.size)), HQ7.out.later B3.out⟩) ?_
        clear hK K
        refine alH fun K hK => ?_
        go_wp2
        refine hK.out _ _ (⟨HQ5.out.later (HV2.out.trans (B3.out.mono HV2.out.size)), HQ7.out.later B3.out⟩) ?_
        clear hK K
        refine alH fun K hK => ?_
        go_wp2
        refine hK.out _ _ (⟨HQ5.out.later (HV2.out.trans (B3.out.mono HV2.out.size)), HQ7.out.later B3.out⟩) ?_
        clear hK K
        refine alH fun K hK => ?_
        go_wp2
        refine hK.out _ _ (⟨HQ5.out.later (HV2.out.trans (B3.out.mono HV2.out.size)), HQ7.out.later B3.out⟩) ?_
        clear hK K
        refine alH fun K hK => ?_
        go_wp2
        refine hK.out _ _ (⟨HQ5.out.later (HV2.out.trans (B3.out.mono HV2.out.size)), HQ7.out.later B3.out⟩) ?_
        clear hK K
        refine alH fun K hK => ?_
        go_wp2
        refine hK.out _ _ (⟨HQ5.out.later (HV2.out.trans (B3.out.mono HV2.out.size)), HQ7.out.later B3.out⟩) ?_
        clear hK K
        refine alH fun K hK => ?_
        go_wp2
        refine hK.out _ _ (⟨HQ5.out.later (HV2.out.trans (B3.out.mono HV2.out.size)), HQ7.out.later B3.out⟩) ?_
        clear hK K
        refine chainH_nil ?_
        have HVf := hide (HV2.out.trans (B3.out.mono HV2.out.size))
        have HBf := hide (HB1.out.trans (HVf.out.mono HB1.out.size))
        go_wp2
        go_ret
        exact ⟨rfl, HBf.out⟩
end Go.Proofs.YtcbdokocnjoilaaDoor
