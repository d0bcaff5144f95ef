/-
  Contracts: may a line be (the document's); how far a line is used (both).
-/
import Derived.Test.YtdeoeihbmdgipaaDoorLRight
namespace Go.Proofs.YtdeoeihbmdgipaaDoor
open Go.ChangeShapes Go.WideShapes Go.ChangeAt Go.RowKit
set_option linter.unusedVariables false

set_option maxRecDepth 100000 in
set_option maxHeartbeats 2000000 in
theorem rlright_any (A : Option Addr) (n c : Nat) (cs : List Cel) (w : World) (h : Cels .i64 w A cs) (hn : cs.length = n) (hl : n ≤ 1000000) (hlb : LB cs) : Calls Tryd.prog 25 #[.slice A n c] w (Said (rightL cs) w) := by
  have HC := hide h
  have HN := hide hn
  have HL := hide hlb
  have nP := @neqP
  clear h hn hlb
  go_enter Tryd.func25, Tryd.ntmps25
  go_wp2
  go_loopw [3] (fun i wr => ∃ k : Nat, k ≤ n ∧ i = .int .i64 k ∧ Hid (∀ j, j < k → okAt cs j = true) ∧ Below w.heap.size w wr) (fun i _ => n - (intOf i).toNat)
  case atStart => exact ⟨0, Nat.zero_le _, rfl, (by unfold Hid; intro j hj; omega), Below.refl _ _⟩
  case round =>
    obtain ⟨k, hk, rfl, hall, hbel⟩ := hrel
    have HB := hide hbel
    clear hbel
    by_cases hlt : k < n
    · obtain ⟨b1, o1, rfl, l1, -⟩ := HC.out.at (i := k) (by rw [HN.out]; exact hlt)
      have hcb := HL.out k (by rw [HN.out]; exact hlt)
      obtain ⟨⟨r, x, y, z, ⟨f, g, b⟩⟩, hc⟩ : ∃ q, cAt cs k = q := ⟨_, rfl⟩
      rw [hc] at hcb
      obtain ⟨-, -, -, hz⟩ := hcb
      have HZ := hide (wAt_of (by rw [HN.out]; exact hlt) hc)
      have HK := hide hc
      obtain ⟨t0, t1, t2, t3, t4, t5, t6, -⟩ := (HC.out.below HB.out).sevenC k (by rw [HN.out]; exact hlt) hc
      obtain ⟨R, hR⟩ : ∃ R, rightC ⟨r, x, y, z, ⟨f, g, b⟩⟩ = R := ⟨_, rfl⟩
      have HR := hide hR
      clear hc hR
      go_wp2_with fail
      refine (rcright_any r x y z f g b hz wr).mono ?_
      rintro e w1 ⟨rfl, hb⟩
      rw [HR.out]
      clear t0 t1 t2 t3 t4 t5 t6
      have HB2 := hide (HB.out.trans (hb.mono HB.out.size))
      clear hb
      cases R
      · have HF := hide (rightL_no cs k (by rw [HN.out]; exact hlt) (okAt_r (by rw [HK.out]; exact HR.out)))
        clear hall
        go_wp2
        go_ret
        exact ⟨ret_bool HF.out.symm, HB2.out⟩
      · go_wp2_with fail
        refine (ralone_any (some ⟨b1, o1, none⟩) n c k cs w1 (HC.out.below HB2.out) HN.out hlt hl).mono ?_
        rintro e w2 ⟨rfl, rfl⟩
        cases hal : aloneC cs k
        case true =>
          have HF := hide (rightL_no cs k (by rw [HN.out]; exact hlt) (okAt_a hal))
          clear hal hall
          go_wp2
          go_ret
          exact ⟨ret_bool HF.out.symm, HB2.out⟩
        case false =>
          have HRR : Hid (rightC (cAt cs k) = true) := by unfold Hid; rw [HK.out]; exact HR.out
          by_cases h2 : z = 0
          case neg =>
            have HT := hide (all_next hall.out (okAt_w HRR.out hal (by rw [HZ.out]; exact h2)))
            have e2 : ((z : Int) == 0) = false := by simp; omega
            obtain ⟨t0, t1, t2, t3, t4, t5, t6, -⟩ := (HC.out.below HB2.out).sevenC k (by rw [HN.out]; exact hlt) HK.out
            clear h2 hal hall
            go_wp2
            go_quiet (fail)
            go_wp2
            go_roundw
            case rel => exact ⟨k + 1, by omega, by go_num, HT, HB2.out.drewN _⟩
            case measure => simp [intOf]; omega
          case pos =>
            have e2 : ((z : Int) == 0) = true := by simp; omega
            have hz2 : wAt cs k = 0 := by rw [HZ.out]; exact h2
            obtain ⟨j, rfl⟩ : ∃ j, k = j + 1 := ⟨k - 1, by have := (alone_0 hz2 hal).1; omega⟩
            obtain ⟨⟨r', x', y', z', ⟨f', g', b'⟩⟩, hc'⟩ : ∃ q, cAt cs j = q := ⟨_, rfl⟩
            obtain ⟨t0, t1, t2, t3, t4, t5, t6, -⟩ := (HC.out.below HB2.out).sevenC (j + 1) (by rw [HN.out]; exact hlt) HK.out
            obtain ⟨v0, v1, v2, v3, v4, v5, v6, -⟩ := (HC.out.below HB2.out).sevenC j (by rw [HN.out]; omega) hc'
            by_cases he : (cAt cs (j + 1)).p = (cAt cs (j + 1 - 1)).p
            · have HT := hide (all_next hall.out (okAt_y HRR.out hal he))
              have hq : eqP (f : Int) (g : Int) (b : Int) (f' : Int) (g' : Int) (b' : Int) = true := by
                rw [show j + 1 - 1 = j by omega, hc', HK.out] at he
                rw [eqP_pen]
                exact decide_eq_true he
              clear h2 hal hall hz2 he hc'
              go_wp2
              go_quiet (fail)
              go_wp2
              go_roundw
              case rel => exact ⟨j + 1 + 1, by omega, by go_num, HT, HB2.out.drewN _⟩
              case measure => simp [intOf]; omega
            · have HF := hide (rightL_no cs (j + 1) (by rw [HN.out]; exact hlt) (okAt_n hz2 he))
              have hq : eqP (f : Int) (g : Int) (b : Int) (f' : Int) (g' : Int) (b' : Int) = false := by
                rw [show j + 1 - 1 = j by omega, hc', HK.out] at he
                rw [eqP_pen]
                exact decide_eq_false he
              clear h2 hal hall hz2 he hc'
              go_wp2
              go_quiet (fail)
              go_wp2
              go_ret
              exact ⟨ret_bool HF.out.symm, HB2.out.drewN _⟩
    · have HF : Hid (rightL cs = true) := by unfold Hid; exact (rightL_iff cs).2 (fun j hj => hall.out j (by rw [HN.out] at hj; omega))
      clear hall
      go_wp2
      go_ret
      exact ⟨ret_bool HF.out.symm, HB.out⟩
theorem used_eq {cs : List Cel} {k : Nat} (h : cAt cs k = blankC zeroP) : usedTo cs (k + 1) = usedTo cs k := by unfold usedTo; rw [if_pos h]; cases k <;> rfl
theorem used_ne {cs : List Cel} {k : Nat} (h : cAt cs k ≠ blankC zeroP) : usedTo cs (k + 1) = k + 1 := by rw [usedTo, if_neg h]
set_option maxRecDepth 100000 in
set_option maxHeartbeats 2000000 in
theorem used_any (A : Option Addr) (n c : Nat) (cs : List Cel) (w : World) (h : Cels .i32 w A cs) (hn : cs.length = n) (hl : n ≤ 1000000) : Calls Tryd.prog 28 #[.slice A n c] w (Num .i64 (usedC cs : Int) w) := by
  have HC := hide h
  have HN := hide hn
  have eC := @eqlCell
  clear h hn
  go_enter Tryd.func28, Tryd.ntmps28
  go_wp2_with fail
  refine (blank_v 0 0 0 w).mono ?_
  rintro e w1 ⟨rfl, hb⟩
  obtain ⟨W1, hW1⟩ : ∃ W1, w1.alloc (.cells #[.int .i32 32, .int .i32 0, .int .i32 0, .int .u8 (1 : Int), .int .u8 (0 : Int), .int .u8 (0 : Int), .int .u8 (0 : Int)] 27) = W1 := ⟨_, rfl⟩
  have HA : Hid (Whole W1 w1.heap.size 27 [.int .i32 32, .int .i32 0, .int .i32 0, .int .u8 (1 : Int), .int .u8 (0 : Int), .int .u8 (0 : Int), .int .u8 (0 : Int)]) := by unfold Hid; rw [← hW1]; exact Whole.new w1 27 [.int .i32 32, .int .i32 0, .int .i32 0, .int .u8 (1 : Int), .int .u8 (0 : Int), .int .u8 (0 : Int), .int .u8 (0 : Int)]
  have HB1 : Hid (Below w.heap.size w W1) := by unfold Hid; rw [← hW1]; exact hb.alloc hb.size _
  have HW1 := hide hW1
  clear hb hW1
  go_wp2
  rw [HW1.out]
  go_loopw [3] (fun i wr => ∃ k : Nat, k ≤ n ∧ i = .int .i64 k ∧ Hid (usedC cs = usedTo cs k) ∧ Below W1.heap.size W1 wr) (fun i _ => (intOf i).toNat)
  case atStart => exact ⟨n, Nat.le_refl _, rfl, (by unfold Hid usedC; rw [HN.out]), Below.refl _ _⟩
  case round =>
    obtain ⟨k, hk, rfl, hu, hbel⟩ := hrel
    have HB := hide hbel
    have HBB := hide (HB1.out.trans (hbel.mono HB1.out.size))
    clear hbel
    cases k with
    | zero =>
      have HU : Hid ((usedC cs : Int) = 0) := by unfold Hid; rw [hu.out]; rfl
      clear hu
      go_wp2
      go_quiet (fail)
      go_wp2
      go_ret
      exact ⟨ret_int HU.out.symm, HBB.out.drewN _⟩
    | succ k =>
      obtain ⟨b1, o1, rfl, l1, -⟩ := HC.out.at (i := k) (by rw [HN.out]; omega)
      obtain ⟨⟨r, x, y, z, ⟨f, g, b⟩⟩, hc⟩ : ∃ q, cAt cs k = q := ⟨_, rfl⟩
      obtain ⟨v0, v1, v2, v3, v4, v5, v6, -⟩ := (HC.out.below HBB.out).sevenC k (by rw [HN.out]; omega) hc
      obtain ⟨t0, t1, t2, t3, t4, t5, t6, -⟩ := cells7 (HA.out.later HB.out)
      by_cases he : cAt cs k = blankC zeroP
      · have HU : Hid (usedC cs = usedTo cs k) := by unfold Hid; rw [hu.out, used_eq he]
        have hq : eqC r x y (z : Int) (f : Int) (g : Int) (b : Int) 32 0 0 1 0 0 0 = true := by
          have q := eqC_cel r x y z f g b 32 0 0 1 0 0 0
          rw [hc] at he
          rw [show (⟨32, 0, 0, 1, ⟨0, 0, 0⟩⟩ : Cel) = blankC zeroP from rfl, he] at q
          simpa using q
        clear hc he hu
        go_wp2
        go_quiet (fail)
        go_wp2
        go_roundw
        case rel => exact ⟨k, by omega, by go_num, HU, HB.out.drewN _⟩
        case measure => simp [intOf]
      · have HU : Hid ((usedC cs : Int) = (k : Int) + 1) := by unfold Hid; rw [hu.out, used_ne he]; omega
        have hq : eqC r x y (z : Int) (f : Int) (g : Int) (b : Int) 32 0 0 1 0 0 0 = false := by
          have q := eqC_cel r x y z f g b 32 0 0 1 0 0 0
          rw [hc] at he
          rw [show (⟨32, 0, 0, 1, ⟨0, 0, 0⟩⟩ : Cel) = blankC zeroP from rfl, decide_eq_false he] at q
          simpa using q
        clear hc he hu
        go_wp2
        go_quiet (fail)
        go_wp2
        go_ret
        exact ⟨ret_int HU.out.symm, HBB.out.drewN _⟩
set_option maxRecDepth 100000 in
set_option maxHeartbeats 2000000 in
theorem rused_any (A : Option Addr) (n c : Nat) (cs : List Cel) (w : World) (h : Cels .i64 w A cs) (hn : cs.length = n) (hl : n ≤ 1000000) : Calls Tryd.prog 29 #[.slice A n c] w (Num .i64 (usedC cs : Int) w) := by
  have HC := hide h
  have HN := hide hn
  have nC := @neqC
  clear h hn
  go_enter Tryd.func29, Tryd.ntmps29
  go_wp2
  go_loopw [3, 4] (fun u i wr => ∃ k m : Nat, k ≤ n ∧ i = .int .i64 k ∧ u = .int .i64 m ∧ Hid (usedTo cs k = m) ∧ Below w.heap.size w wr) (fun _ i _ => n - (intOf i).toNat)
  case atStart => exact ⟨0, 0, Nat.zero_le _, rfl, rfl, rfl, Below.refl _ _⟩
  case round =>
    obtain ⟨k, m, hk, rfl, rfl, hu, hbel⟩ := hrel
    have HB := hide hbel
    clear hbel
    by_cases hlt : k < n
    · obtain ⟨b1, o1, rfl, l1, -⟩ := HC.out.at (i := k) (by rw [HN.out]; exact hlt)
      obtain ⟨⟨r, x, y, z, ⟨f, g, b⟩⟩, hc⟩ : ∃ q, cAt cs k = q := ⟨_, rfl⟩
      have HK := hide hc
      have CW := hide (HC.out.below HB.out)
      by_cases he : cAt cs k = blankC zeroP
      · have HU : Hid (usedTo cs (k + 1) = m) := by unfold Hid; rw [used_eq he]; exact hu.out
        have HQ : Hid (eqC r x y (z : Int) (f : Int) (g : Int) (b : Int) 32 0 0 1 0 0 0 = true) := by
          unfold Hid
          have q := eqC_cel r x y z f g b 32 0 0 1 0 0 0
          rw [hc] at he
          rw [show (⟨32, 0, 0, 1, ⟨0, 0, 0⟩⟩ : Cel) = blankC zeroP from rfl, he] at q
          simpa using q
        clear hc he hu
        go_wp2
        refine wp_region_chainH (fun w' => Below wr.heap.size wr w') [(true, 0), (true, 1), (true, 2), (true, 4), (true, 3), (false, 5), (false, 6)] (by kernel_rfl) (by kernel_rfl) (by kernel_rfl) (fun _ _ _ _ _ h => h) ?_ ?_
        · exact (Below.refl _ _).drewN 1
        refine chainH_take (v := ?_) (by simp only [List.getElem?_toArray, List.getElem?_cons_zero]; rfl) (by rfl) (fun w hS => ?_) ?_
        rotate_left
        · go_simp <;> with_reducible rfl
        simp only [Act.put, List.setIfInBounds_toArray, List.set_cons_zero, List.set_cons_succ]
        refine chainH_take (v := ?_) (by simp only [List.getElem?_toArray, List.getElem?_cons_zero, List.getElem?_cons_succ]; rfl) (by rfl) (fun w hS => ?_) ?_
        rotate_left
        · go_simp <;> with_reducible rfl
        simp only [Act.put, List.setIfInBounds_toArray, List.set_cons_zero, List.set_cons_succ]
        refine chainH_take (v := ?_) (by simp only [List.getElem?_toArray, List.getElem?_cons_zero, List.getElem?_cons_succ]; rfl) (by rfl) (fun w hS => ?_) ?_
        rotate_left
        · have l2 := hlt; go_simp <;> with_reducible rfl
        simp only [Act.put, List.setIfInBounds_toArray, List.set_cons_zero, List.set_cons_succ]
        refine chainH_take (v := ?_) (by simp only [List.getElem?_toArray, List.getElem?_cons_zero, List.getElem?_cons_succ]; rfl) (by rfl) (fun w hS => ?_) ?_
        rotate_left
        · go_simp <;> with_reducible rfl
        simp only [Act.put, List.setIfInBounds_toArray, List.set_cons_zero, List.set_cons_succ]
        refine chainH_take (v := ?_) (by simp only [List.getElem?_toArray, List.getElem?_cons_zero, List.getElem?_cons_succ]; rfl) (by rfl) (fun w hS => ?_) ?_
        rotate_left
        · obtain ⟨v0, v1, v2, v3, v4, v5, v6, -⟩ := (CW.out.below hS).sevenC k (by rw [HN.out]; exact hlt) HK.out; go_simp <;> with_reducible rfl
        simp only [Act.put, List.setIfInBounds_toArray, List.set_cons_zero, List.set_cons_succ]
        refine chainH_alone (by simp only [List.getElem?_toArray, List.getElem?_cons_zero, List.getElem?_cons_succ]; rfl) ?_
        intro K hK
        go_wp2_with fail
        refine (rblank_v 0 0 0 _).mono ?_
        rintro e j1 ⟨rfl, hb⟩
        have Bj1 : Below wr.heap.size wr j1 := ((Below.refl _ _).drewN 1).trans hb
        have hq := HQ.out
        clear hb
        go_wp2
        refine hK.out _ _ Bj1 ?_
        clear hK K
        refine chainH_alone (by simp only [List.getElem?_toArray, List.getElem?_cons_zero, List.getElem?_cons_succ]; rfl) ?_
        intro K hK
        go_wp2
        refine hK.out _ _ Bj1 ?_
        clear hK K
        refine chainH_nil ?_
        go_wp2
        go_roundw
        case rel => exact ⟨k + 1, m, by omega, by go_num, rfl, HU, HB.out.trans (Bj1.mono HB.out.size)⟩
        case measure => simp [intOf]; omega
      · have HU : Hid (usedTo cs (k + 1) = k + 1) := by unfold Hid; exact used_ne he
        have HQ : Hid (eqC r x y (z : Int) (f : Int) (g : Int) (b : Int) 32 0 0 1 0 0 0 = false) := by
          unfold Hid
          have q := eqC_cel r x y z f g b 32 0 0 1 0 0 0
          rw [hc] at he
          rw [show (⟨32, 0, 0, 1, ⟨0, 0, 0⟩⟩ : Cel) = blankC zeroP from rfl, decide_eq_false he] at q
          simpa using q
        clear hc he hu
        go_wp2
        refine wp_region_chainH (fun w' => Below wr.heap.size wr w') [(true, 0), (true, 1), (true, 2), (true, 4), (true, 3), (false, 5), (false, 6)] (by kernel_rfl) (by kernel_rfl) (by kernel_rfl) (fun _ _ _ _ _ h => h) ?_ ?_
        · exact (Below.refl _ _).drewN 1
        refine chainH_take (v := ?_) (by simp only [List.getElem?_toArray, List.getElem?_cons_zero]; rfl) (by rfl) (fun w hS => ?_) ?_
        rotate_left
        · go_simp <;> with_reducible rfl
        simp only [Act.put, List.setIfInBounds_toArray, List.set_cons_zero, List.set_cons_succ]
        refine chainH_take (v := ?_) (by simp only [List.getElem?_toArray, List.getElem?_cons_zero, List.getElem?_cons_succ]; rfl) (by rfl) (fun w hS => ?_) ?_
        rotate_left
        · go_simp <;> with_reducible rfl
        simp only [Act.put, List.setIfInBounds_toArray, List.set_cons_zero, List.set_cons_succ]
        refine chainH_take (v := ?_) (by simp only [List.getElem?_toArray, List.getElem?_cons_zero, List.getElem?_cons_succ]; rfl) (by rfl) (fun w hS => ?_) ?_
        rotate_left
        · have l2 := hlt; go_simp <;> with_reducible rfl
        simp only [Act.put, List.setIfInBounds_toArray, List.set_cons_zero, List.set_cons_succ]
        refine chainH_take (v := ?_) (by simp only [List.getElem?_toArray, List.getElem?_cons_zero, List.getElem?_cons_succ]; rfl) (by rfl) (fun w hS => ?_) ?_
        rotate_left
        · go_simp <;> with_reducible rfl
        simp only [Act.put, List.setIfInBounds_toArray, List.set_cons_zero, List.set_cons_succ]
        refine chainH_take (v := ?_) (by simp only [List.getElem?_toArray, List.getElem?_cons_zero, List.getElem?_cons_succ]; rfl) (by rfl) (fun w hS => ?_) ?_
        rotate_left
        · obtain ⟨v0, v1, v2, v3, v4, v5, v6, -⟩ := (CW.out.below hS).sevenC k (by rw [HN.out]; exact hlt) HK.out; go_simp <;> with_reducible rfl
        simp only [Act.put, List.setIfInBounds_toArray, List.set_cons_zero, List.set_cons_succ]
        refine chainH_alone (by simp only [List.getElem?_toArray, List.getElem?_cons_zero, List.getElem?_cons_succ]; rfl) ?_
        intro K hK
        go_wp2_with fail
        refine (rblank_v 0 0 0 _).mono ?_
        rintro e j1 ⟨rfl, hb⟩
        have Bj1 : Below wr.heap.size wr j1 := ((Below.refl _ _).drewN 1).trans hb
        have hq := HQ.out
        clear hb
        go_wp2
        refine hK.out _ _ Bj1 ?_
        clear hK K
        refine chainH_alone (by simp only [List.getElem?_toArray, List.getElem?_cons_zero, List.getElem?_cons_succ]; rfl) ?_
        intro K hK
        go_wp2
        refine hK.out _ _ Bj1 ?_
        clear hK K
        refine chainH_nil ?_
        go_wp2
        go_roundw
        case rel => exact ⟨k + 1, k + 1, by omega, by go_num, by go_num, HU, HB.out.trans (Bj1.mono HB.out.size)⟩
        case measure => simp [intOf]; omega
    · have HU : Hid ((usedC cs : Int) = (m : Int)) := by unfold Hid usedC; rw [HN.out, ← hu.out, show k = n by omega]
      clear hu
      go_wp2
      go_ret
      exact ⟨ret_int HU.out.symm, HB.out⟩
end Go.Proofs.YtdeoeihbmdgipaaDoor
