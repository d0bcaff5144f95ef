/-
  Contracts: may a line be (both); how far a line is used (both).
-/
import Derived.Test.YtdeoeihbmdgipaaDoorLSame
import Derived.Test.YtdeoeihbmdgipaaDoorLRef
import Derived.Test.YtdeoeihbmdgipaaDoorLAlone
import Derived.Test.YtdeoeihbmdgipaaDoorCRRight
import Derived.Test.YtdeoeihbmdgipaaDoorChainH
import Derived.Test.YtdeoeihbmdgipaaDoorLMark
namespace Go.Proofs.YtdeoeihbmdgipaaDoor
open Go.ChangeShapes Go.WideShapes Go.ChangeAt Go.RowKit
set_option linter.unusedVariables false

theorem okP_r {cs : List Cel} {k : Nat} (h : rightC (cAt cs k) = false) : okP cs k = false := by unfold okP; rw [h]; rfl
theorem okP_a {cs : List Cel} {k : Nat} (h : aloneC cs k = true) : okP cs k = false := by unfold okP; rw [h]; simp
theorem okP_w {cs : List Cel} {k : Nat} (h : rightC (cAt cs k) = true) (ha : aloneC cs k = false) (hw : wAt cs k ≠ 2) : okP cs k = true := (okP_iff cs k).2 ⟨h, ha, fun q => absurd q hw⟩
theorem okP_y {cs : List Cel} {k : Nat} (h : rightC (cAt cs k) = true) (ha : aloneC cs k = false) (hw : cAt cs (k + 1) = restC (cAt cs k)) : okP cs k = true := (okP_iff cs k).2 ⟨h, ha, fun _ => hw⟩
theorem okP_n {cs : List Cel} {k : Nat} (h2 : wAt cs k = 2) (hw : cAt cs (k + 1) ≠ restC (cAt cs k)) : okP cs k = false := by
  cases q : okP cs k
  · rfl
  · exact absurd (((okP_iff cs k).1 q).2.2 h2) hw
theorem okAt_r {cs : List Cel} {k : Nat} (h : rightC (cAt cs k) = false) : okAt cs k = false := by unfold okAt; rw [h]; rfl
theorem okAt_a {cs : List Cel} {k : Nat} (h : aloneC cs k = true) : okAt cs k = false := by unfold okAt; rw [h]; simp
theorem okAt_w {cs : List Cel} {k : Nat} (h : rightC (cAt cs k) = true) (ha : aloneC cs k = false) (hw : wAt cs k ≠ 0) : okAt cs k = true := (okAt_iff cs k).2 ⟨h, ha, fun q => absurd q hw⟩
theorem okAt_y {cs : List Cel} {k : Nat} (h : rightC (cAt cs k) = true) (ha : aloneC cs k = false) (hw : (cAt cs k).p = (cAt cs (k - 1)).p) : okAt cs k = true := (okAt_iff cs k).2 ⟨h, ha, fun _ => hw⟩
theorem okAt_n {cs : List Cel} {k : Nat} (h2 : wAt cs k = 0) (hw : (cAt cs k).p ≠ (cAt cs (k - 1)).p) : okAt cs k = false := by
  cases q : okAt cs k
  · rfl
  · exact absurd (((okAt_iff cs k).1 q).2.2 h2) hw
theorem all_next {p : Nat → Bool} {k : Nat} (h : ∀ j, j < k → p j = true) (hk : p k = true) : ∀ j, j < k + 1 → p j = true := fun j hj => by
  by_cases q : j = k
  · rw [q]; exact hk
  · exact h j (by omega)
theorem wrap_small (x : Int) (h0 : -9223372036854775808 ≤ x) (h1 : x ≤ 9223372036854775807) : IntKind.i64.wrap x = x := by
  simp [IntKind.wrap, IntKind.signed, IntKind.bits]
  omega
set_option maxRecDepth 100000 in
set_option maxHeartbeats 4000000 in
theorem lright_any (A : Option Addr) (n c : Nat) (cs : List Cel) (w : World) (h : Cels .i32 w A cs) (hn : cs.length = n) (hl : n ≤ 1000000) (hlb : LB cs) (hS : Spans w) : Calls Tryd.prog 24 #[.slice A n c] w (Said (rightL cs) w) := by
  have HC := hide h
  have HN := hide hn
  have HL := hide hlb
  have HS := hide hS
  have nC := @neqCell
  clear h hn hlb hS
  go_enter Tryd.func24, Tryd.ntmps24
  go_wp2
  go_step3
  go_wp2
  go_step3
  go_wp2
  go_loopw [3, 4] (fun i _ wr => ∃ k : Nat, k ≤ n ∧ i = .int .i64 k ∧ Hid (∀ j, j < k → okP cs j = true) ∧ Below w.heap.size w wr) (fun i _ _ => n - (intOf i).toNat)
  case atStart => exact ⟨0, Nat.zero_le _, rfl, (by unfold Hid; intro j hj; omega), Below.refl _ _⟩
  case round =>
    obtain ⟨k, hk, rfl, hall, hbel⟩ := hrel
    have HB := hide hbel
    clear hbel
    by_cases hlt : k < n
    · obtain ⟨b1, o1, rfl, l1, -⟩ := HC.out.at (i := k) (by rw [HN.out]; exact hlt)
      have hcb := HL.out k (by rw [HN.out]; exact hlt)
      obtain ⟨⟨r, x, y, z, ⟨f, g, b⟩⟩, hc⟩ : ∃ q, cAt cs k = q := ⟨_, rfl⟩
      rw [hc] at hcb
      obtain ⟨-, -, -, hz⟩ := hcb
      have HZ := hide (wAt_of (by rw [HN.out]; exact hlt) hc)
      have HK := hide hc
      obtain ⟨u0, u1, u2, u3', u4', u5, u6, -⟩ := (HC.out.below HB.out).sevenC k (by rw [HN.out]; exact hlt) hc
      obtain ⟨W1, hW1⟩ : ∃ W1, wr.alloc (.cells #[.int .i32 r, .int .i32 x, .int .i32 y, .int .u8 (z : Int), .int .u8 (f : Int), .int .u8 (g : Int), .int .u8 (b : Int)] 27) = W1 := ⟨_, rfl⟩
      have HA : Hid (Whole W1 wr.heap.size 27 [.int .i32 r, .int .i32 x, .int .i32 y, .int .u8 (z : Int), .int .u8 (f : Int), .int .u8 (g : Int), .int .u8 (b : Int)]) := by unfold Hid; rw [← hW1]; exact Whole.new wr 27 [.int .i32 r, .int .i32 x, .int .i32 y, .int .u8 (z : Int), .int .u8 (f : Int), .int .u8 (g : Int), .int .u8 (b : Int)]
      have HB1 : Hid (Below w.heap.size w W1) := by unfold Hid; rw [← hW1]; exact HB.out.alloc HB.out.size _
      have HW1 := hide hW1
      obtain ⟨R, hR⟩ : ∃ R, rightC ⟨r, x, y, z, ⟨f, g, b⟩⟩ = R := ⟨_, rfl⟩
      have HR := hide hR
      clear hc hW1 hR
      go_wp2_with fail
      rw [HW1.out]
      refine (cright_any r x y z f g b hz W1 (HS.out.below HB1.out)).mono ?_
      rintro e w1 ⟨rfl, hb⟩
      rw [HR.out]
      clear u0 u1 u2 u3' u4' u5 u6
      have HB2 := hide (HB1.out.trans (hb.mono HB1.out.size))
      have HA2 := hide (HA.out.later hb)
      clear hb
      cases R
      · have HF := hide (rightL_noP cs k (by rw [HN.out]; exact hlt) (okP_r (by rw [HK.out]; exact HR.out)))
        have ek : ((k : Int) == (n : Int)) = false := by simp; omega
        go_wp2
        go_ret
        exact ⟨ret_bool HF.out.symm, HB2.out⟩
      · go_wp2_with fail
        refine (alone_any (some ⟨b1, o1, none⟩) n c k cs w1 (HC.out.below HB2.out) HN.out hlt hl).mono ?_
        rintro e w2 ⟨rfl, rfl⟩
        cases hal : aloneC cs k
        case true =>
          have HF := hide (rightL_noP cs k (by rw [HN.out]; exact hlt) (okP_a hal))
          have ek : ((k : Int) == (n : Int)) = false := by simp; omega
          clear hal
          go_wp2
          go_ret
          exact ⟨ret_bool HF.out.symm, HB2.out⟩
        case false =>
          have HRR : Hid (rightC (cAt cs k) = true) := by unfold Hid; rw [HK.out]; exact HR.out
          by_cases h2 : z = 2
          case neg =>
            have HT := hide (all_next hall.out (okP_w HRR.out hal (by rw [HZ.out]; exact h2)))
            have e2 : ((z : Int) == 2) = false := by simp; omega
            clear h2 hal hall
            obtain ⟨t0, t1, t2, t3, t4, t5, t6, -⟩ := cells7 HA2.out
            go_wp2
            refine wp_region_chainH (fun w' => Below w1.heap.size w1 w') [(false, 0), (false, 1), (false, 2), (false, 3), (true, 4), (true, 5), (true, 6), (true, 7), (true, 8), (false, 9), (false, 10), (false, 11), (false, 12), (false, 13)] (by kernel_rfl) (by kernel_rfl) (by kernel_rfl) (fun _ _ _ _ _ h => h) ?_ ?_
            · exact (Below.refl _ _).drewN 1
            refine chainH_alone (by simp only [List.getElem?_toArray, List.getElem?_cons_zero]; rfl) ?_
            intro K hK
            go_wp2
            refine hK.out _ _ ((Below.refl _ _).drewN 1) ?_
            clear hK K
            refine chainH_alone (by simp only [List.getElem?_toArray, List.getElem?_cons_zero, List.getElem?_cons_succ]; rfl) ?_
            intro K hK
            go_wp2
            refine hK.out _ _ ((Below.refl _ _).drewN 1) ?_
            clear hK K
            refine chainH_alone (by simp only [List.getElem?_toArray, List.getElem?_cons_zero, List.getElem?_cons_succ]; rfl) ?_
            intro K hK
            go_wp2
            refine hK.out _ _ ((Below.refl _ _).drewN 1) ?_
            clear hK K
            refine chainH_alone (by simp only [List.getElem?_toArray, List.getElem?_cons_zero, List.getElem?_cons_succ]; rfl) ?_
            intro K hK
            go_wp2
            refine hK.out _ _ ((Below.refl _ _).drewN 1) ?_
            clear hK K
            refine chainH_skip (by simp only [List.getElem?_toArray, List.getElem?_cons_zero, List.getElem?_cons_succ]; rfl) (by rfl) ?_
            simp only [Act.put, List.setIfInBounds_toArray, List.set_cons_zero, List.set_cons_succ]
            refine chainH_skip (by simp only [List.getElem?_toArray, List.getElem?_cons_zero, List.getElem?_cons_succ]; rfl) (by rfl) ?_
            simp only [Act.put, List.setIfInBounds_toArray, List.set_cons_zero, List.set_cons_succ]
            refine chainH_skip (by simp only [List.getElem?_toArray, List.getElem?_cons_zero, List.getElem?_cons_succ]; rfl) (by rfl) ?_
            simp only [Act.put, List.setIfInBounds_toArray, List.set_cons_zero, List.set_cons_succ]
            refine chainH_skip (by simp only [List.getElem?_toArray, List.getElem?_cons_zero, List.getElem?_cons_succ]; rfl) (by rfl) ?_
            simp only [Act.put, List.setIfInBounds_toArray, List.set_cons_zero, List.set_cons_succ]
            refine chainH_skip (by simp only [List.getElem?_toArray, List.getElem?_cons_zero, List.getElem?_cons_succ]; rfl) (by rfl) ?_
            simp only [Act.put, List.setIfInBounds_toArray, List.set_cons_zero, List.set_cons_succ]
            refine chainH_pass (by simp only [List.getElem?_toArray, List.getElem?_cons_zero, List.getElem?_cons_succ]; rfl) (by rfl) ((Below.refl _ _).drewN 1) ?_
            simp only [Act.put, List.setIfInBounds_toArray, List.set_cons_zero, List.set_cons_succ]
            refine chainH_pass (by simp only [List.getElem?_toArray, List.getElem?_cons_zero, List.getElem?_cons_succ]; rfl) (by rfl) ((Below.refl _ _).drewN 1) ?_
            simp only [Act.put, List.setIfInBounds_toArray, List.set_cons_zero, List.set_cons_succ]
            refine chainH_pass (by simp only [List.getElem?_toArray, List.getElem?_cons_zero, List.getElem?_cons_succ]; rfl) (by rfl) ((Below.refl _ _).drewN 1) ?_
            simp only [Act.put, List.setIfInBounds_toArray, List.set_cons_zero, List.set_cons_succ]
            refine chainH_alone (by simp only [List.getElem?_toArray, List.getElem?_cons_zero, List.getElem?_cons_succ]; rfl) ?_
            intro K hK
            go_wp2
            refine hK.out _ _ ((Below.refl _ _).drewN 1) ?_
            clear hK K
            refine chainH_alone (by simp only [List.getElem?_toArray, List.getElem?_cons_zero, List.getElem?_cons_succ]; rfl) ?_
            intro K hK
            go_wp2
            refine hK.out _ _ ((Below.refl _ _).drewN 1) ?_
            clear hK K
            refine chainH_nil ?_
            go_wp2
            go_roundw
            case rel => exact ⟨k + 1, by omega, by go_num, HT, HB2.out.trans (((Below.refl _ _).drewN 1).mono HB2.out.size)⟩
            case measure => simp [intOf]; omega
          case pos =>
            have e2 : ((z : Int) == 2) = true := by simp; omega
            have hz2 : wAt cs k = 2 := by rw [HZ.out]; exact h2
            have hk1 : k + 1 < n := by have q := alone_2 hz2 hal; have q2 := wAt_lt (l := cs) (i := k + 1) (by omega); rw [HN.out] at q2; exact q2
            obtain ⟨⟨r', x', y', z', ⟨f', g', b'⟩⟩, hc'⟩ : ∃ q, cAt cs (k + 1) = q := ⟨_, rfl⟩
            obtain ⟨t0, t1, t2, t3, t4, t5, t6, -⟩ := cells7 HA2.out
            have hwr : IntKind.i64.wrap ((k : Int) + 1) = (k : Int) + 1 := wrap_small _ (by omega) (by omega)
            have hw0 : (0 : Int) ≤ (k : Int) + 1 := by omega
            have hw1 : (k : Int) + 1 < (n : Int) := by omega
            have hw2 : ((k : Int) + 1).toNat = k + 1 := by omega
            by_cases he : cAt cs (k + 1) = restC (cAt cs k)
            · have HT := hide (all_next hall.out (okP_y HRR.out hal he))
              have HQ : Hid (eqC r' x' y' (z' : Int) (f' : Int) (g' : Int) (b' : Int) 0 0 0 0 (f : Int) (g : Int) (b : Int) = true) := by
                unfold Hid
                rw [hc', HK.out] at he
                have q := eqC_cel r' x' y' z' f' g' b' 0 0 0 0 f g b
                rw [show (⟨0, 0, 0, 0, ⟨f, g, b⟩⟩ : Cel) = restC ⟨r, x, y, z, ⟨f, g, b⟩⟩ from rfl, ← he] at q
                simpa using q
              have HC' := hide hc'
              clear h2 hal hall hz2 he hc'
              go_wp2
              refine wp_region_chainH (fun w' => Below w1.heap.size w1 w') [(false, 0), (false, 1), (false, 2), (false, 3), (true, 4), (true, 5), (true, 6), (true, 7), (true, 8), (false, 9), (false, 10), (false, 11), (false, 12), (false, 13)] (by kernel_rfl) (by kernel_rfl) (by kernel_rfl) (fun _ _ _ _ _ h => h) ?_ ?_
              · exact (Below.refl _ _).drewN 1
              refine chainH_alone (by simp only [List.getElem?_toArray, List.getElem?_cons_zero]; rfl) ?_
              intro K hK
              go_wp2
              refine hK.out _ _ ((Below.refl _ _).drewN 1) ?_
              clear hK K
              refine chainH_alone (by simp only [List.getElem?_toArray, List.getElem?_cons_zero, List.getElem?_cons_succ]; rfl) ?_
              intro K hK
              go_wp2
              refine hK.out _ _ ((Below.refl _ _).drewN 1) ?_
              clear hK K
              refine chainH_alone (by simp only [List.getElem?_toArray, List.getElem?_cons_zero, List.getElem?_cons_succ]; rfl) ?_
              intro K hK
              go_wp2
              refine hK.out _ _ ((Below.refl _ _).drewN 1) ?_
              clear hK K
              refine chainH_alone (by simp only [List.getElem?_toArray, List.getElem?_cons_zero, List.getElem?_cons_succ]; rfl) ?_
              intro K hK
              go_wp2
              refine hK.out _ _ ((Below.refl _ _).drewN 1) ?_
              clear hK K
              refine chainH_take (v := ?_) (by simp only [List.getElem?_toArray, List.getElem?_cons_zero, List.getElem?_cons_succ]; rfl) (by rfl) (fun w hS => ?_) ?_
              rotate_left
              · go_simp <;> with_reducible rfl
              simp only [Act.put, List.setIfInBounds_toArray, List.set_cons_zero, List.set_cons_succ]
              refine chainH_take (v := ?_) (by simp only [List.getElem?_toArray, List.getElem?_cons_zero, List.getElem?_cons_succ]; rfl) (by rfl) (fun w hS => ?_) ?_
              rotate_left
              · go_simp <;> with_reducible rfl
              simp only [Act.put, List.setIfInBounds_toArray, List.set_cons_zero, List.set_cons_succ]
              refine chainH_take (v := ?_) (by simp only [List.getElem?_toArray, List.getElem?_cons_zero, List.getElem?_cons_succ]; rfl) (by rfl) (fun w hS => ?_) ?_
              rotate_left
              · have hw6 := hwr; go_simp <;> with_reducible rfl
              simp only [Act.put, List.setIfInBounds_toArray, List.set_cons_zero, List.set_cons_succ]
              refine chainH_take (v := ?_) (by simp only [List.getElem?_toArray, List.getElem?_cons_zero, List.getElem?_cons_succ]; rfl) (by rfl) (fun w hS => ?_) ?_
              rotate_left
              · have hw7 := hw0; have hw8 := hw1; have hw9 := hw2; go_simp <;> with_reducible rfl
              simp only [Act.put, List.setIfInBounds_toArray, List.set_cons_zero, List.set_cons_succ]
              refine chainH_take (v := ?_) (by simp only [List.getElem?_toArray, List.getElem?_cons_zero, List.getElem?_cons_succ]; rfl) (by rfl) (fun w hS => ?_) ?_
              rotate_left
              · obtain ⟨v0, v1, v2, v3, v4, v5, v6, -⟩ := ((HC.out.below HB2.out).below hS).sevenC (k + 1) (by rw [HN.out]; exact hk1) HC'.out; go_simp <;> with_reducible rfl
              simp only [Act.put, List.setIfInBounds_toArray, List.set_cons_zero, List.set_cons_succ]
              refine chainH_alone (by simp only [List.getElem?_toArray, List.getElem?_cons_zero, List.getElem?_cons_succ]; rfl) ?_
              intro K hK
              go_wp2
              refine hK.out _ _ ((Below.refl _ _).drewN 1) ?_
              clear hK K
              refine chainH_alone (by simp only [List.getElem?_toArray, List.getElem?_cons_zero, List.getElem?_cons_succ]; rfl) ?_
              intro K hK
              go_wp2_with fail
              refine (rest_v r x y z f g b _).mono ?_
              rintro e j1 ⟨rfl, hb⟩
              have Bj1 : Below w1.heap.size w1 j1 := ((Below.refl _ _).drewN 1).trans hb
              have hq := HQ.out
              clear hb
              go_wp2
              refine hK.out _ _ Bj1 ?_
              clear hK K
              refine chainH_alone (by simp only [List.getElem?_toArray, List.getElem?_cons_zero, List.getElem?_cons_succ]; rfl) ?_
              intro K hK
              go_wp2
              refine hK.out _ _ Bj1 ?_
              clear hK K
              refine chainH_alone (by simp only [List.getElem?_toArray, List.getElem?_cons_zero, List.getElem?_cons_succ]; rfl) ?_
              intro K hK
              go_wp2
              refine hK.out _ _ Bj1 ?_
              clear hK K
              refine chainH_alone (by simp only [List.getElem?_toArray, List.getElem?_cons_zero, List.getElem?_cons_succ]; rfl) ?_
              intro K hK
              go_wp2
              refine hK.out _ _ Bj1 ?_
              clear hK K
              refine chainH_nil ?_
              go_wp2
              go_roundw
              case rel => exact ⟨k + 1, by omega, by go_num, HT, HB2.out.trans (Bj1.mono HB2.out.size)⟩
              case measure => simp [intOf]; omega
            · have HF := hide (rightL_noP cs k (by rw [HN.out]; exact hlt) (okP_n hz2 he))
              have ek : ((k : Int) == (n : Int)) = false := by simp; omega
              have HQ : Hid (eqC r' x' y' (z' : Int) (f' : Int) (g' : Int) (b' : Int) 0 0 0 0 (f : Int) (g : Int) (b : Int) = false) := by
                unfold Hid
                rw [hc', HK.out] at he
                have q := eqC_cel r' x' y' z' f' g' b' 0 0 0 0 f g b
                rw [show (⟨0, 0, 0, 0, ⟨f, g, b⟩⟩ : Cel) = restC ⟨r, x, y, z, ⟨f, g, b⟩⟩ from rfl, decide_eq_false he] at q
                exact q
              have HC' := hide hc'
              clear h2 hal hall hz2 he hc'
              go_wp2
              refine wp_region_chainH (fun w' => Below w1.heap.size w1 w') [(false, 0), (false, 1), (false, 2), (false, 3), (true, 4), (true, 5), (true, 6), (true, 7), (true, 8), (false, 9), (false, 10), (false, 11), (false, 12), (false, 13)] (by kernel_rfl) (by kernel_rfl) (by kernel_rfl) (fun _ _ _ _ _ h => h) ?_ ?_
              · exact (Below.refl _ _).drewN 1
              refine chainH_alone (by simp only [List.getElem?_toArray, List.getElem?_cons_zero]; rfl) ?_
              intro K hK
              go_wp2
              refine hK.out _ _ ((Below.refl _ _).drewN 1) ?_
              clear hK K
              refine chainH_alone (by simp only [List.getElem?_toArray, List.getElem?_cons_zero, List.getElem?_cons_succ]; rfl) ?_
              intro K hK
              go_wp2
              refine hK.out _ _ ((Below.refl _ _).drewN 1) ?_
              clear hK K
              refine chainH_alone (by simp only [List.getElem?_toArray, List.getElem?_cons_zero, List.getElem?_cons_succ]; rfl) ?_
              intro K hK
              go_wp2
              refine hK.out _ _ ((Below.refl _ _).drewN 1) ?_
              clear hK K
              refine chainH_alone (by simp only [List.getElem?_toArray, List.getElem?_cons_zero, List.getElem?_cons_succ]; rfl) ?_
              intro K hK
              go_wp2
              refine hK.out _ _ ((Below.refl _ _).drewN 1) ?_
              clear hK K
              refine chainH_take (v := ?_) (by simp only [List.getElem?_toArray, List.getElem?_cons_zero, List.getElem?_cons_succ]; rfl) (by rfl) (fun w hS => ?_) ?_
              rotate_left
              · go_simp <;> with_reducible rfl
              simp only [Act.put, List.setIfInBounds_toArray, List.set_cons_zero, List.set_cons_succ]
              refine chainH_take (v := ?_) (by simp only [List.getElem?_toArray, List.getElem?_cons_zero, List.getElem?_cons_succ]; rfl) (by rfl) (fun w hS => ?_) ?_
              rotate_left
              · go_simp <;> with_reducible rfl
              simp only [Act.put, List.setIfInBounds_toArray, List.set_cons_zero, List.set_cons_succ]
              refine chainH_take (v := ?_) (by simp only [List.getElem?_toArray, List.getElem?_cons_zero, List.getElem?_cons_succ]; rfl) (by rfl) (fun w hS => ?_) ?_
              rotate_left
              · have hw6 := hwr; go_simp <;> with_reducible rfl
              simp only [Act.put, List.setIfInBounds_toArray, List.set_cons_zero, List.set_cons_succ]
              refine chainH_take (v := ?_) (by simp only [List.getElem?_toArray, List.getElem?_cons_zero, List.getElem?_cons_succ]; rfl) (by rfl) (fun w hS => ?_) ?_
              rotate_left
              · have hw7 := hw0; have hw8 := hw1; have hw9 := hw2; go_simp <;> with_reducible rfl
              simp only [Act.put, List.setIfInBounds_toArray, List.set_cons_zero, List.set_cons_succ]
              refine chainH_take (v := ?_) (by simp only [List.getElem?_toArray, List.getElem?_cons_zero, List.getElem?_cons_succ]; rfl) (by rfl) (fun w hS => ?_) ?_
              rotate_left
              · obtain ⟨v0, v1, v2, v3, v4, v5, v6, -⟩ := ((HC.out.below HB2.out).below hS).sevenC (k + 1) (by rw [HN.out]; exact hk1) HC'.out; go_simp <;> with_reducible rfl
              simp only [Act.put, List.setIfInBounds_toArray, List.set_cons_zero, List.set_cons_succ]
              refine chainH_alone (by simp only [List.getElem?_toArray, List.getElem?_cons_zero, List.getElem?_cons_succ]; rfl) ?_
              intro K hK
              go_wp2
              refine hK.out _ _ ((Below.refl _ _).drewN 1) ?_
              clear hK K
              refine chainH_alone (by simp only [List.getElem?_toArray, List.getElem?_cons_zero, List.getElem?_cons_succ]; rfl) ?_
              intro K hK
              go_wp2_with fail
              refine (rest_v r x y z f g b _).mono ?_
              rintro e j1 ⟨rfl, hb⟩
              have Bj1 : Below w1.heap.size w1 j1 := ((Below.refl _ _).drewN 1).trans hb
              have hq := HQ.out
              clear hb
              go_wp2
              refine hK.out _ _ Bj1 ?_
              clear hK K
              refine chainH_alone (by simp only [List.getElem?_toArray, List.getElem?_cons_zero, List.getElem?_cons_succ]; rfl) ?_
              intro K hK
              go_wp2
              refine hK.out _ _ Bj1 ?_
              clear hK K
              refine chainH_alone (by simp only [List.getElem?_toArray, List.getElem?_cons_zero, List.getElem?_cons_succ]; rfl) ?_
              intro K hK
              go_wp2
              refine hK.out _ _ Bj1 ?_
              clear hK K
              refine chainH_alone (by simp only [List.getElem?_toArray, List.getElem?_cons_zero, List.getElem?_cons_succ]; rfl) ?_
              intro K hK
              go_wp2
              refine hK.out _ _ Bj1 ?_
              clear hK K
              refine chainH_nil ?_
              go_wp2
              go_ret
              exact ⟨ret_bool HF.out.symm, HB2.out.trans (Bj1.mono HB2.out.size)⟩
    · have HF : Hid (rightL cs = true) := by unfold Hid; exact rightL_yesP cs (fun j hj => hall.out j (by rw [HN.out] at hj; omega))
      have ek : ((k : Int) == (n : Int)) = true := by simp; omega
      clear hall
      go_wp2
      go_ret
      exact ⟨ret_bool HF.out.symm, HB.out⟩
end Go.Proofs.YtdeoeihbmdgipaaDoor
