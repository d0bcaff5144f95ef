/-
  The walk of the law ParseNumbers.
-/
import Derived.Test.YtfngnmopdfojmaaPNum
import Derived.Test.YtfngnmopdfojmaaPStep0
import Derived.Test.YtfngnmopdfojmaaPOpen
import Derived.Test.YtfngnmopdfojmaaChain
import Derived.Test.YtfngnmopdfojmaaChainH
import Derived.Lib.MinMax
namespace Go.Proofs.Ytfngnmopdfojmaa
set_option maxRecDepth 100000
open Go.ChangeShapes Go.WideShapes Go.ChangeAt Go.RowKit
set_option linter.unusedVariables false

theorem Ints.typed {C : Nat} {t : TypeId} {k : IntKind} {w : World} {a : Option Addr} {zs : List Int} (h : Ints k w a zs) (hC : w.heap.size ≤ C) : IntsT C t k w a zs := by
  by_cases h0 : zs = []
  · exact .inl h0
  · obtain ⟨b, off, e, hc, hb⟩ := h.at (i := 0) (List.length_pos_iff.2 h0)
    rcases h with h | ⟨b', off', e', hc'⟩
    · exact .inl h
    · rw [e] at e'
      cases e'
      exact .inr ⟨b, off, e, .inl (by omega), hc'⟩
/-- Rows of events that came in, as a list. -/
theorem EvsIn.evs {w : World} {a : Option Addr} {len : Nat} (h : EvsIn w a len) : ∃ es : List Ev, es.length = len ∧ Evs w.heap.size 56 .i32 w a es ∧ ∀ e ∈ es, EvB e := by
  by_cases h00 : len = 0
  · exact ⟨[], h00.symm, .nil, by simp⟩
  rcases h with rfl | ⟨b, off, rfl, h⟩
  · exact absurd rfl h00
  · have each : ∀ i : Nat, ∃ x : Ea, i < len → (∀ d v, (eaL .i32 x)[d]? = some v → w.cell? ⟨b, off + i * 3 + d, none⟩ = some v) ∧ EaOk w.heap.size w x ∧ EvB x.e := by
      intro i
      by_cases hi : i < len
      · obtain ⟨k, r, A, n, c, zs, h0, h1, h2, ok⟩ := h i hi
        obtain ⟨hz, hl, hn0, hm⟩ := ok.row.len
        have hlen : (zs.take n).length = n := by rw [List.length_take]; omega
        refine ⟨⟨⟨k, r, zs.take n⟩, A, c⟩, fun _ => ⟨?_, (ok.row.ints.take n).typed (Nat.le_refl _), ok.r0, ok.r1, ?_⟩⟩
        · intro d v hv
          unfold eaL at hv
          rw [show (⟨⟨k, r, zs.take n⟩, A, c⟩ : Ea).e.n.length = n from hlen] at hv
          match d, hv with
          | 0, hv => simp at hv; subst hv; exact h0
          | 1, hv => simp at hv; subst hv; exact h1
          | 2, hv => simp at hv; subst hv; exact h2
          | d + 3, hv => simp at hv
        · show (zs.take n).length ≤ _
          rw [hlen]
          unfold maxLen at hm
          omega
      · exact ⟨⟨⟨0, 0, []⟩, none, 0⟩, fun q => absurd q hi⟩
    have hspec := fun i hi => Classical.choose_spec (each i) hi
    refine ⟨((List.range len).map fun i => Classical.choose (each i)).map (·.e), by simp, ⟨(List.range len).map fun i => Classical.choose (each i), rfl, ?_, .inr ⟨b, off, rfl, .inl ?_, ?_⟩⟩, ?_⟩
    · intro x hx
      obtain ⟨i, hi, rfl⟩ := List.mem_map.1 hx
      exact (hspec i (List.mem_range.1 hi)).2.1
    · exact block_lt_of_cell ((hspec 0 (by omega)).1 0 _ rfl)
    · intro j v hj
      have hd : j % 3 < 3 := by omega
      have e : j = j / 3 * 3 + j % 3 := by omega
      rw [e, flatE_get _ _ _ _ hd] at hj
      by_cases hq : j / 3 < len
      · rw [List.getElem?_map, List.getElem?_range hq] at hj
        have := (hspec (j / 3) hq).1 (j % 3) v (by simpa using hj)
        rwa [Nat.add_assoc, ← e] at this
      · rw [List.getElem?_eq_none (by simp; omega)] at hj
        simp at hj
    · intro y hy
      obtain ⟨x, hx, rfl⟩ := List.mem_map.1 hy
      obtain ⟨i, hi, rfl⟩ := List.mem_map.1 hx
      exact (hspec i (List.mem_range.1 hi)).2.2

set_option maxHeartbeats 4000000 in
theorem parseNumbers_walk (k r : Int) (A : Option Addr) (n c : Nat) (zs : List Int) (at_ none_ : Int) (a : Option Addr) (alen acap : Nat) (b : Option Addr) (blen bcap : Nat) (w : World)
    (he : EvIn w k r A n c zs) (hat : (Lit.int .i64 at_).wf = true) (hnone : (Lit.int .i64 none_).wf = true) (ha : EvsIn w a alen ∧ alen ≤ acap ∧ acap ≤ maxLen ∧ (a = none → acap = 0)) (hb : EvsIn w b blen ∧ blen ≤ bcap ∧ bcap ≤ maxLen ∧ (b = none → bcap = 0)) :
    Calls Try.prog 5 #[.agg #[.int .i64 k, .int .i32 r, .slice A n c], .int .i64 at_, .int .i64 none_, .slice a alen acap, .slice b blen bcap] w fun e w' => e = .returned (.bool true) ∧ Below w.heap.size w w' := by
  obtain ⟨hz, hl, hn0, hm⟩ := he.row.len
  obtain ⟨m, hmin, hm20, hmn⟩ : ∃ m : Nat, min (n : Int) 20 = (m : Int) ∧ m ≤ 20 ∧ m ≤ n := ⟨min n 20, by omega, by omega, by omega⟩
  obtain ⟨ma, hmina, hma10, hman⟩ : ∃ m : Nat, min (alen : Int) 10 = (m : Int) ∧ m ≤ 10 ∧ m ≤ alen := ⟨min alen 10, by omega, by omega, by omega⟩
  obtain ⟨mb, hminb, hmb10, hmbn⟩ : ∃ m : Nat, min (blen : Int) 10 = (m : Int) ∧ m ≤ 10 ∧ m ≤ blen := ⟨min blen 10, by omega, by omega, by omega⟩
  obtain ⟨hae, hal, ham, -⟩ := ha
  obtain ⟨hbe, hbl, hbm, -⟩ := hb
  obtain ⟨es0, hes, hea, hba⟩ := hae.evs
  obtain ⟨fs0, hfs, heb, hbb⟩ := hbe.evs
  have r0 := he.r0
  have r1 := he.r1
  unfold maxLen at hm ham hbm
  have hea := hea.take ma
  have heb := heb.take mb
  have HLA : Hid ((es0.take ma).length = ma) := by unfold Hid; rw [List.length_take]; omega
  have HLB : Hid ((fs0.take mb).length = mb) := by unfold Hid; rw [List.length_take]; omega
  have HBA : Hid (∀ e ∈ es0.take ma, EvB e) := fun e he => hba e (List.mem_of_mem_take he)
  have HBB : Hid (∀ e ∈ fs0.take mb, EvB e) := fun e he => hbb e (List.mem_of_mem_take he)
  have hxr := he.row.ints.take m
  have HXL : Hid ((zs.take m).length = m) := by unfold Hid; rw [List.length_take]; omega
  generalize es0.take ma = es at *
  generalize fs0.take mb = fs at *
  generalize zs.take m = xs at *
  obtain ⟨W, hW⟩ : ∃ W, w.alloc (.cells #[.int .i64 k, .int .i32 r, .slice A m c] 56) = W := ⟨_, rfl⟩
  have hbW : Below w.heap.size w W := by rw [← hW]; exact (Below.refl _ _).alloc (Nat.le_refl _) _
  have HBW := hide hbW
  have HWW : Hid (Whole W w.heap.size 56 [.int .i64 k, .int .i32 r, .slice A m c]) := by unfold Hid; rw [← hW]; exact Whole.new w 56 _
  have HEA0 := hide (hea.below hbW (Nat.le_refl _))
  have HEB0 := hide (heb.below hbW (Nat.le_refl _))
  have HXR0 := hide (hxr.below hbW)
  have HW := hide hW
  have m0 : (0 : Int) ≤ (m : Int) := by omega
  have mc : (m : Int) ≤ (c : Int) := by omega
  have ma0 : (0 : Int) ≤ (ma : Int) := by omega
  have mac : (ma : Int) ≤ (acap : Int) := by omega
  have mb0 : (0 : Int) ≤ (mb : Int) := by omega
  have mbc : (mb : Int) ≤ (bcap : Int) := by omega
  clear hz hn0 he hae hbe hes hfs hea heb hba hbb hxr hbW hW hat hnone
  go_enter Try.func5, Try.ntmps5
  go_wp2
  rw [HW.out]
  refine wp_region_chain [(true, [0]), (true, [1]), (true, [5]), (true, [6]), (true, [2]), (true, [7]), (true, [3]), (true, [8]), (true, [4]), (true, [10]), (false, [9, 11])] (by kernel_rfl) (by kernel_rfl) (by kernel_rfl) (fun _ _ _ _ _ h => h) ?_
  refine chain_take (v := ?_) (by simp only [pickOps, List.getElem?_toArray, List.getElem?_cons_zero]; rfl) (Or.inl ⟨rfl, fun w => ?_⟩) ?_
  rotate_left
  · go_simp <;> with_reducible rfl
  simp only [Act.put, List.setIfInBounds_toArray, List.set_cons_zero, List.set_cons_succ]
  refine chain_take (v := ?_) (by simp only [pickOps, List.getElem?_toArray, List.getElem?_cons_zero, List.getElem?_cons_succ]; rfl) (Or.inl ⟨rfl, fun w => ?_⟩) ?_
  rotate_left
  · go_simp <;> with_reducible rfl
  simp only [Act.put, List.setIfInBounds_toArray, List.set_cons_zero, List.set_cons_succ]
  refine chain_take (v := ?_) (by simp only [pickOps, List.getElem?_toArray, List.getElem?_cons_zero, List.getElem?_cons_succ]; rfl) (Or.inl ⟨rfl, fun w => ?_⟩) ?_
  rotate_left
  · go_simp <;> with_reducible rfl
  simp only [Act.put, List.setIfInBounds_toArray, List.set_cons_zero, List.set_cons_succ]
  refine chain_take (v := ?_) (by simp only [pickOps, List.getElem?_toArray, List.getElem?_cons_zero, List.getElem?_cons_succ]; rfl) (Or.inl ⟨rfl, fun w => ?_⟩) ?_
  rotate_left
  · go_simp <;> with_reducible rfl
  simp only [Act.put, List.setIfInBounds_toArray, List.set_cons_zero, List.set_cons_succ]
  refine chain_take (v := ?_) (by simp only [pickOps, List.getElem?_toArray, List.getElem?_cons_zero, List.getElem?_cons_succ]; rfl) (Or.inl ⟨rfl, fun w => ?_⟩) ?_
  rotate_left
  · go_simp <;> with_reducible rfl
  simp only [Act.put, List.setIfInBounds_toArray, List.set_cons_zero, List.set_cons_succ]
  refine chain_take (v := ?_) (by simp only [pickOps, List.getElem?_toArray, List.getElem?_cons_zero, List.getElem?_cons_succ]; rfl) (Or.inl ⟨rfl, fun w => ?_⟩) ?_
  rotate_left
  · go_simp <;> with_reducible rfl
  simp only [Act.put, List.setIfInBounds_toArray, List.set_cons_zero, List.set_cons_succ]
  refine chain_take (v := .int .i64 (ma : Int)) (by simp only [pickOps, List.getElem?_toArray, List.getElem?_cons_zero, List.getElem?_cons_succ]; rfl) (Or.inl ⟨rfl, fun w => ?_⟩) ?_
  · go_simp
    first | exact hmina | simp [hmina] | skip
  simp only [Act.put, List.setIfInBounds_toArray, List.set_cons_zero, List.set_cons_succ]
  refine chain_take (v := .int .i64 (mb : Int)) (by simp only [pickOps, List.getElem?_toArray, List.getElem?_cons_zero, List.getElem?_cons_succ]; rfl) (Or.inl ⟨rfl, fun w => ?_⟩) ?_
  · go_simp
    first | exact hminb | simp [hminb] | skip
  simp only [Act.put, List.setIfInBounds_toArray, List.set_cons_zero, List.set_cons_succ]
  refine chain_take (v := .slice a ma acap) (by simp only [pickOps, List.getElem?_toArray, List.getElem?_cons_zero, List.getElem?_cons_succ]; rfl) (Or.inl ⟨rfl, fun w => ?_⟩) ?_
  · go_simp
  simp only [Act.put, List.setIfInBounds_toArray, List.set_cons_zero, List.set_cons_succ]
  refine chain_take (v := ?_) (by simp only [pickOps, List.getElem?_toArray, List.getElem?_cons_zero, List.getElem?_cons_succ]; rfl) (Or.inl ⟨rfl, fun w => ?_⟩) ?_
  rotate_left
  · go_simp <;> with_reducible rfl
  simp only [Act.put, List.setIfInBounds_toArray, List.set_cons_zero, List.set_cons_succ]
  refine chain_alone (by simp only [pickOps, List.getElem?_toArray, List.getElem?_cons_zero, List.getElem?_cons_succ]; rfl) ?_
  intro K hK
  go_wp2
  refine hK.out _ _ ?_
  clear hK K
  refine chain_nil ?_
  go_wp2
  go_loopw [11, 12] (fun v i wr => ∃ j : Nat, j ≤ mb ∧ i = .int .i64 j ∧ OwnE w.heap.size 58 .i64 W.heap.size W wr v (fs.take j)) (fun _ i _ => mb - (intOf i).toNat)
  case atStart => exact ⟨0, Nat.zero_le _, rfl, OwnE.from0 (Nat.le_refl _) ((Below.refl _ _).drewN 1) HBW.out.size⟩
  case round =>
    obtain ⟨j, hj, rfl, hown⟩ := hrel
    have HO := hide hown
    clear hown
    have HEB := hide (HEB0.out.below HO.out.bel HBW.out.size)
    by_cases hlt : j < mb
    · obtain ⟨b1, off1, A1, c1, rfl, lb1, x0, x1, x2, xi⟩ := HEB.out.at (i := j) (by rw [HLB.out]; exact hlt)
      have hev := HBB.out _ (evAt_mem fs j (by rw [HLB.out]; exact hlt))
      obtain ⟨u, hu⟩ : ∃ u, evAt fs j = u := ⟨_, rfl⟩
      rw [hu] at x0 x1 x2 xi hev
      obtain ⟨u0, u1, -⟩ := hev
      obtain ⟨nu, hnu⟩ : ∃ nu, u.n.length = nu := ⟨_, rfl⟩
      rw [hnu] at x2
      have HNU := hide hnu
      have HXI := hide xi
      have HTK : Hid (fs.take (j + 1) = fs.take j ++ [⟨u.k, u.r, u.n⟩]) := by
        unfold Hid
        rw [List.take_succ_eq_append_getElem (by rw [HLB.out]; exact hlt)]
        have : fs[j]'(by rw [HLB.out]; exact hlt) = u := by
          rw [← hu]
          unfold evAt
          rw [List.getD_eq_getElem?_getD, List.getElem?_eq_getElem (by rw [HLB.out]; exact hlt)]
          rfl
        rw [this]
      have hlk : (fs.take j).length ≤ 1000000 := by rw [List.length_take]; omega
      obtain ⟨A0, n0, c0, rfl⟩ := HO.out.slice
      clear hu hnu xi
      go_wp2_with fail
      refine (lpof_any u.k u.r A1 nu c1 wr u0 u1).mono ?_
      rintro e w1 ⟨rfl, hb1⟩
      have HO1 := hide (HO.out.later hb1)
      have HXI1 := hide (HXI.out.below hb1 (Nat.le_trans HBW.out.size (Nat.le_trans HO.out.bel.size (Nat.le_refl _))))
      clear hb1 HO HXI HEB x0 x1 x2
      go_wp2_with (at_builtin; refine stopw ?_)
      unfold Hid
      refine wpList_pushE elemE u.k u.r A1 c1 u.n nu HNU.out HXI1.out rfl _ _ rfl rfl rfl HO1.out hlk (by omega) (by decide) ?_
      intro v2 w2 h2 _ _
      go_wp2
      go_roundw
      case rel => exact ⟨j + 1, by omega, by go_num, by rw [HTK.out]; exact h2⟩
      case measure => simp [intOf]; omega
    · have HTK : Hid (fs.take j = fs) := by unfold Hid; exact List.take_of_length_le (by rw [HLB.out]; omega)
      rw [HTK.out] at HO
      obtain ⟨A9, c9, rfl, hev, -, -, -⟩ := HO.out.form
      rw [HLB.out]
      have HEV := hide hev
      have HBe := hide HO.out.bel
      have HEA := hide (HEA0.out.below HBe.out HBW.out.size)
      have HXR := hide (HXR0.out.below HBe.out)
      have HBX := hide (HWW.out.later HBe.out)
      have HC : Hid (w.heap.size ≤ wr.heap.size) := Nat.le_trans HBW.out.size HBe.out.size
      have HFIN : Hid (Below w.heap.size w wr) := HBW.out.trans (HBe.out.mono HBW.out.size)
      clear hev HO
      go_wp2
      refine wp_region_chainH (fun w' => Below wr.heap.size wr w') [(false, 0), (false, 1), (true, 3), (true, 4), (true, 8), (true, 9), (true, 2), (true, 6), (false, 5), (false, 7), (false, 10), (false, 11), (false, 12), (false, 13), (true, 14), (true, 15), (true, 17), (true, 18), (false, 16), (false, 19), (false, 20), (false, 21), (false, 22), (true, 23), (false, 24), (false, 25), (false, 26), (false, 27)] (by kernel_rfl) (by kernel_rfl) (by kernel_rfl) (fun _ _ _ _ _ h => h) ?_ ?_
      · exact (Below.refl _ _).drewN 1
      refine chainH_alone (by simp only [List.getElem?_toArray, List.getElem?_cons_zero]; rfl) ?_
      intro K hK
      go_wp2_with fail
      refine (pknown_any _).mono ?_
      rintro e z1 ⟨rfl, hb⟩
      have Bz1 : Below wr.heap.size wr z1 := ((Below.refl _ _).drewN 1).trans hb
      clear hb
      go_wp2
      refine hK.out _ _ Bz1 ?_
      clear hK K
      refine chainH_alone (by simp only [List.getElem?_toArray, List.getElem?_cons_zero, List.getElem?_cons_succ]; rfl) ?_
      intro K hK
      go_wp2
      refine hK.out _ _ Bz1 ?_
      clear hK K
      refine chainH_take (v := ?_) (by simp only [List.getElem?_toArray, List.getElem?_cons_zero, List.getElem?_cons_succ]; rfl) (by rfl) (fun w hS => ?_) ?_
      rotate_left
      · go_simp <;> with_reducible rfl
      simp only [Act.put, List.setIfInBounds_toArray, List.set_cons_zero, List.set_cons_succ]
      refine chainH_take (v := ?_) (by simp only [List.getElem?_toArray, List.getElem?_cons_zero, List.getElem?_cons_succ]; rfl) (by rfl) (fun w hS => ?_) ?_
      rotate_left
      · go_simp <;> with_reducible rfl
      simp only [Act.put, List.setIfInBounds_toArray, List.set_cons_zero, List.set_cons_succ]
      refine chainH_take (v := ?_) (by simp only [List.getElem?_toArray, List.getElem?_cons_zero, List.getElem?_cons_succ]; rfl) (by rfl) (fun w hS => ?_) ?_
      rotate_left
      · go_simp <;> with_reducible rfl
      simp only [Act.put, List.setIfInBounds_toArray, List.set_cons_zero, List.set_cons_succ]
      refine chainH_take (v := ?_) (by simp only [List.getElem?_toArray, List.getElem?_cons_zero, List.getElem?_cons_succ]; rfl) (by rfl) (fun w hS => ?_) ?_
      rotate_left
      · go_simp <;> with_reducible rfl
      simp only [Act.put, List.setIfInBounds_toArray, List.set_cons_zero, List.set_cons_succ]
      refine chainH_take (v := ?_) (by simp only [List.getElem?_toArray, List.getElem?_cons_zero, List.getElem?_cons_succ]; rfl) (by rfl) (fun w hS => ?_) ?_
      rotate_left
      · obtain ⟨a0_, a1_, a2_, -⟩ := cells3 (HBX.out.later hS); go_simp <;> with_reducible rfl
      simp only [Act.put, List.setIfInBounds_toArray, List.set_cons_zero, List.set_cons_succ]
      refine chainH_take (v := ?_) (by simp only [List.getElem?_toArray, List.getElem?_cons_zero, List.getElem?_cons_succ]; rfl) (by rfl) (fun w hS => ?_) ?_
      rotate_left
      · obtain ⟨a0_, a1_, a2_, -⟩ := cells3 (HBX.out.later hS); go_simp <;> with_reducible rfl
      simp only [Act.put, List.setIfInBounds_toArray, List.set_cons_zero, List.set_cons_succ]
      refine chainH_alone (by simp only [List.getElem?_toArray, List.getElem?_cons_zero, List.getElem?_cons_succ]; rfl) ?_
      intro K hK
      go_wp2_with fail
      refine (pnum_any k r at_ none_ A m c xs _ (HXR.out.below Bz1) HXL.out).mono ?_
      rintro e z2 ⟨rfl, hb⟩
      have Bz2 : Below wr.heap.size wr z2 := Bz1.trans (hb.mono Bz1.size)
      clear hb
      go_wp2
      refine hK.out _ _ Bz2 ?_
      clear hK K
      refine chainH_alone (by simp only [List.getElem?_toArray, List.getElem?_cons_zero, List.getElem?_cons_succ]; rfl) ?_
      intro K hK
      go_wp2_with fail
      refine (lpof_any k r A m c _ r0 r1).mono ?_
      rintro e z3 ⟨rfl, hb⟩
      have Bz3 : Below wr.heap.size wr z3 := Bz2.trans (hb.mono Bz2.size)
      clear hb
      go_wp2
      refine hK.out _ _ Bz3 ?_
      clear hK K
      refine chainH_alone (by simp only [List.getElem?_toArray, List.getElem?_cons_zero, List.getElem?_cons_succ]; rfl) ?_
      intro K hK
      go_wp2_with fail
      refine (rpnum_any k r at_ none_ A m c xs _ (HXR.out.below Bz3) HXL.out).mono ?_
      rintro e z4 ⟨rfl, hb⟩
      have Bz4 : Below wr.heap.size wr z4 := Bz3.trans (hb.mono Bz3.size)
      clear hb
      generalize numP xs at_ none_ = y at *
      go_wp2
      refine hK.out _ _ Bz4 ?_
      clear hK K
      refine chainH_alone (by simp only [List.getElem?_toArray, List.getElem?_cons_zero, List.getElem?_cons_succ]; rfl) ?_
      intro K hK
      go_wp2
      refine hK.out _ _ Bz4 ?_
      clear hK K
      refine chainH_alone (by simp only [List.getElem?_toArray, List.getElem?_cons_zero, List.getElem?_cons_succ]; rfl) ?_
      intro K hK
      go_wp2
      refine hK.out _ _ Bz4 ?_
      clear hK K
      refine chainH_alone (by simp only [List.getElem?_toArray, List.getElem?_cons_zero, List.getElem?_cons_succ]; rfl) ?_
      intro K hK
      go_wp2
      refine hK.out _ _ Bz4 ?_
      clear hK K
      refine chainH_take (v := ?_) (by simp only [List.getElem?_toArray, List.getElem?_cons_zero, List.getElem?_cons_succ]; rfl) (by rfl) (fun w hS => ?_) ?_
      rotate_left
      · go_simp <;> with_reducible rfl
      simp only [Act.put, List.setIfInBounds_toArray, List.set_cons_zero, List.set_cons_succ]
      refine chainH_take (v := ?_) (by simp only [List.getElem?_toArray, List.getElem?_cons_zero, List.getElem?_cons_succ]; rfl) (by rfl) (fun w hS => ?_) ?_
      rotate_left
      · go_simp <;> with_reducible rfl
      simp only [Act.put, List.setIfInBounds_toArray, List.set_cons_zero, List.set_cons_succ]
      refine chainH_take (v := ?_) (by simp only [List.getElem?_toArray, List.getElem?_cons_zero, List.getElem?_cons_succ]; rfl) (by rfl) (fun w hS => ?_) ?_
      rotate_left
      · go_simp <;> with_reducible rfl
      simp only [Act.put, List.setIfInBounds_toArray, List.set_cons_zero, List.set_cons_succ]
      refine chainH_take (v := ?_) (by simp only [List.getElem?_toArray, List.getElem?_cons_zero, List.getElem?_cons_succ]; rfl) (by rfl) (fun w hS => ?_) ?_
      rotate_left
      · go_simp <;> with_reducible rfl
      simp only [Act.put, List.setIfInBounds_toArray, List.set_cons_zero, List.set_cons_succ]
      refine chainH_alone (by simp only [List.getElem?_toArray, List.getElem?_cons_zero, List.getElem?_cons_succ]; rfl) ?_
      intro K hK
      go_wp2_with fail
      refine (psame_any w.heap.size a b ma mb acap bcap es fs _ (HEA.out.below Bz4 HC.out) (HEB.out.below Bz4 HC.out) (Nat.le_trans HC.out Bz4.size) HLA.out HLB.out (by omega) HBA.out).mono ?_
      rintro e z5 ⟨oz5, hbo, rfl, hb⟩
      have Bz5 : Below wr.heap.size wr z5 := Bz4.trans (hb.mono Bz4.size)
      clear hb
      have HBO := hide hbo
      clear hbo
      go_wp2
      refine hK.out _ _ Bz5 ?_
      clear hK K
      refine chainH_alone (by simp only [List.getElem?_toArray, List.getElem?_cons_zero, List.getElem?_cons_succ]; rfl) ?_
      intro K hK
      go_wp2_with fail
      refine (lpsame_any w.heap.size w.heap.size a A9 ma mb acap c9 es fs _ (HEA.out.below Bz5 HC.out) (HEV.out.below Bz5 HC.out) (Nat.le_trans HC.out Bz5.size) (Nat.le_trans HC.out Bz5.size) HLA.out HLB.out (by omega) HBA.out).mono ?_
      rintro e z6 ⟨oz6, hbo, rfl, hb⟩
      have Bz6 : Below wr.heap.size wr z6 := Bz5.trans (hb.mono Bz5.size)
      clear hb
      obtain rfl : oz6 = oz5 := by
        have := hbo.trans HBO.out.symm
        cases oz6 <;> cases oz5 <;> simp_all
      clear hbo
      go_wp2
      refine hK.out _ _ Bz6 ?_
      clear hK K
      refine chainH_alone (by simp only [List.getElem?_toArray, List.getElem?_cons_zero, List.getElem?_cons_succ]; rfl) ?_
      intro K hK
      go_wp2
      refine hK.out _ _ Bz6 ?_
      clear hK K
      refine chainH_alone (by simp only [List.getElem?_toArray, List.getElem?_cons_zero, List.getElem?_cons_succ]; rfl) ?_
      intro K hK
      go_wp2
      refine hK.out _ _ Bz6 ?_
      clear hK K
      refine chainH_alone (by simp only [List.getElem?_toArray, List.getElem?_cons_zero, List.getElem?_cons_succ]; rfl) ?_
      intro K hK
      go_wp2
      refine hK.out _ _ Bz6 ?_
      clear hK K
      refine chainH_take (v := ?_) (by simp only [List.getElem?_toArray, List.getElem?_cons_zero, List.getElem?_cons_succ]; rfl) (by rfl) (fun w hS => ?_) ?_
      rotate_left
      · go_simp <;> with_reducible rfl
      simp only [Act.put, List.setIfInBounds_toArray, List.set_cons_zero, List.set_cons_succ]
      refine chainH_alone (by simp only [List.getElem?_toArray, List.getElem?_cons_zero, List.getElem?_cons_succ]; rfl) ?_
      intro K hK
      go_wp2
      refine hK.out _ _ Bz6 ?_
      clear hK K
      refine chainH_alone (by simp only [List.getElem?_toArray, List.getElem?_cons_zero, List.getElem?_cons_succ]; rfl) ?_
      intro K hK
      go_wp2_with fail
      refine (psame_any w.heap.size a a ma ma acap acap es es _ (HEA.out.below Bz6 HC.out) (HEA.out.below Bz6 HC.out) (Nat.le_trans HC.out Bz6.size) HLA.out HLA.out (by omega) HBA.out).mono ?_
      rintro e z7 ⟨oz7, hbo, rfl, hb⟩
      have Bz7 : Below wr.heap.size wr z7 := Bz6.trans (hb.mono Bz6.size)
      clear hb
      obtain rfl : oz7 = true := hbo.2 rfl
      clear hbo
      go_wp2
      refine hK.out _ _ Bz7 ?_
      clear hK K
      refine chainH_alone (by simp only [List.getElem?_toArray, List.getElem?_cons_zero, List.getElem?_cons_succ]; rfl) ?_
      intro K hK
      go_wp2
      refine hK.out _ _ Bz7 ?_
      clear hK K
      refine chainH_alone (by simp only [List.getElem?_toArray, List.getElem?_cons_zero, List.getElem?_cons_succ]; rfl) ?_
      intro K hK
      go_wp2
      refine hK.out _ _ Bz7 ?_
      clear hK K
      refine chainH_nil ?_
      go_wp2
      go_ret
      exact ⟨rfl, HFIN.out.trans (Bz7.mono HC.out)⟩
end Go.Proofs.Ytfngnmopdfojmaa
