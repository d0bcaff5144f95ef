/-
  Contracts and plain mathematics of LRight, LRight2, GRef2, GRef3, GRef5.
-/
import Derived.Test.YtoddfaoifnkhlaaGreatDoorB7
import Derived.Test.YtoddfaoifnkhlaaGreatDoorB5
import Derived.Test.YtoddfaoifnkhlaaGreatDoorB3
import Derived.Test.YtoddfaoifnkhlaaGreatDoorB4
import Derived.Test.YtoddfaoifnkhlaaGreatDoorB1
import Derived.Test.YtoddfaoifnkhlaaGreatDoorB6
import Derived.Test.YtoddfaoifnkhlaaGreatDoorB8
namespace Go.Proofs.YtoddfaoifnkhlaaGreatDoor
set_option maxRecDepth 100000
set_option linter.unusedVariables false
set_option maxHeartbeats 8000000
section
open Go.ChangeShapes Go.WideShapes Go.ChangeAt Go.RowKit
theorem okP_r {cs : List Cel} {k : Nat} (h : rightC (cAt cs k) = false) : okP cs k = false := by unfold okP; rw [h]; rfl
theorem okP_a {cs : List Cel} {k : Nat} (h : aloneC cs k = true) : okP cs k = false := by unfold okP; rw [h]; simp
theorem okP_w {cs : List Cel} {k : Nat} (h : rightC (cAt cs k) = true) (ha : aloneC cs k = false) (hw : wAt cs k ≠ 2) : okP cs k = true := (okP_iff cs k).2 ⟨h, ha, fun q => absurd q hw⟩
theorem okP_y {cs : List Cel} {k : Nat} (h : rightC (cAt cs k) = true) (ha : aloneC cs k = false) (hw : cAt cs (k + 1) = restC (cAt cs k)) : okP cs k = true := (okP_iff cs k).2 ⟨h, ha, fun _ => hw⟩
theorem okP_n {cs : List Cel} {k : Nat} (h2 : wAt cs k = 2) (hw : cAt cs (k + 1) ≠ restC (cAt cs k)) : okP cs k = false := by
 cases q : okP cs k
 ·rfl
 ·exact absurd (((okP_iff cs k).1 q).2.2 h2) hw
theorem okAt_r {cs : List Cel} {k : Nat} (h : rightC (cAt cs k) = false) : okAt cs k = false := by unfold okAt; rw [h]; rfl
theorem okAt_a {cs : List Cel} {k : Nat} (h : aloneC cs k = true) : okAt cs k = false := by unfold okAt; rw [h]; simp
theorem okAt_w {cs : List Cel} {k : Nat} (h : rightC (cAt cs k) = true) (ha : aloneC cs k = false) (hw : wAt cs k ≠ 0) : okAt cs k = true := (okAt_iff cs k).2 ⟨h, ha, fun q => absurd q hw⟩
theorem okAt_y {cs : List Cel} {k : Nat} (h : rightC (cAt cs k) = true) (ha : aloneC cs k = false) (hw : (cAt cs k).p = (cAt cs (k - 1)).p) : okAt cs k = true := (okAt_iff cs k).2 ⟨h, ha, fun _ => hw⟩
theorem okAt_n {cs : List Cel} {k : Nat} (h2 : wAt cs k = 0) (hw : (cAt cs k).p ≠ (cAt cs (k - 1)).p) : okAt cs k = false := by
 cases q : okAt cs k
 ·rfl
 ·exact absurd (((okAt_iff cs k).1 q).2.2 h2) hw
theorem all_next {p : Nat → Bool} {k : Nat} (h : ∀ j, j < k → p j = true) (hk : p k = true) : ∀ j, j < k + 1 → p j = true := fun j hj => by
 by_cases q : j = k
 ·rw [q]; exact hk
 ·exact h j (by omega)
theorem wrap_small (x : Int) (h0 : -9223372036854775808 ≤ x) (h1 : x ≤ 9223372036854775807) : IntKind.i64.wrap x = x := by
 simp [IntKind.wrap, IntKind.signed, IntKind.bits]
 omega
theorem lright_any (A : Option Addr) (n c : Nat) (cs : List Cel) (w : World) (h : Cels .i32 w A cs) (hn : cs.length = n) (hl : n ≤ 1000000) (hlb : LB cs) (hS : Spans w) : Calls Tryz.prog 58 #[.slice A n c] w (Said (rightL cs) w) := by
 have HC := hide h; have HN := hide hn; have HL := hide hlb; have HS := hide hS
 have nC := @neqCell
 clear h hn hlb hS
 go_enter Tryz.func58, Tryz.ntmps58
 go_wp2
 go_step3
 go_wp2
 go_step3
 go_wp2
 go_loopw [3, 4] (fun i _ wr => ∃ k : Nat, k ≤ n ∧ i = .int .i64 k ∧ Hid (∀ j, j < k → okP cs j = true) ∧ Below w.heap.size w wr) (fun i _ _ => n - (intOf i).toNat)
 case atStart => exact ⟨0, Nat.zero_le _, rfl, (by unfold Hid; intro j hj; omega), Below.refl _ _⟩
 case round =>
  obtain ⟨k, hk, rfl, hall, hbel⟩ := hrel
  have HB := hide hbel; clear hbel
  by_cases hlt : k < n
  ·obtain ⟨b1, o1, rfl, l1, -⟩ := HC.out.at (i := k) (by rw [HN.out]; exact hlt)
   have hcb := HL.out k (by rw [HN.out]; exact hlt)
   obtain ⟨⟨r, x, y, z, ⟨f, g, b⟩⟩, hc⟩ : ∃ q, cAt cs k = q := ⟨_, rfl⟩
   rw [hc] at hcb
   obtain ⟨-, -, -, hz⟩ := hcb
   have HZ := hide (wAt_of (by rw [HN.out]; exact hlt) hc)
   have HK := hide hc
   obtain ⟨u0, u1, u2, u3', u4', u5, u6, -⟩ := (HC.out.below HB.out).sevenC k (by rw [HN.out]; exact hlt) hc
   obtain ⟨W1, hW1⟩ := exq (wr.alloc (.cells #[.int .i32 r, .int .i32 x, .int .i32 y, .int .u8 z, .int .u8 f, .int .u8 g, .int .u8 b] 65))
   have HA : Hid (Whole W1 wr.heap.size 65 [.int .i32 r, .int .i32 x, .int .i32 y, .int .u8 z, .int .u8 f, .int .u8 g, .int .u8 b]) := by unfold Hid; rw [← hW1]; exact Whole.new _ _ _
   have HB1 : Hid (Below w.heap.size w W1) := by unfold Hid; rw [← hW1]; exact HB.out.alloc HB.out.size _
   have HW1 := hide hW1
   obtain ⟨R, hR⟩ := exq (rightC ⟨r, x, y, z, ⟨f, g, b⟩⟩)
   have HR := hide hR; clear hc hW1 hR; go_wp2_with fail
   rw [HW1.out]
   refine (cright_any r x y z f g b hz W1 (HS.out.below HB1.out)).mono ?_
   rintro e w1 ⟨rfl, hb⟩
   rw [HR.out]
   clear u0 u1 u2 u3' u4' u5 u6
   have HB2 := hide (HB1.out.trans (hb.mono HB1.out.size))
   have HA2 := hide (HA.out.later hb)
   clear hb
   cases R
   ·have HF := hide (rightL_noP cs k (by rw [HN.out]; exact hlt) (okP_r (by rw [HK.out]; exact HR.out)))
    have ek : ((k : Int) == (n : Int)) = false := by simp; omega
    go_wp2; go_ret
    exact ⟨ret_bool HF.out.symm, HB2.out⟩
   ·go_wp2_with fail
    refine (alone_any (some ⟨b1, o1, none⟩) n c k cs w1 (HC.out.below HB2.out) HN.out hlt hl).mono ?_
    rintro e w2 ⟨rfl, rfl⟩
    cases hal : aloneC cs k
    case true =>
     have HF := hide (rightL_noP cs k (by rw [HN.out]; exact hlt) (okP_a hal))
     have ek : ((k : Int) == (n : Int)) = false := by simp; omega
     clear hal; go_wp2; go_ret
     exact ⟨ret_bool HF.out.symm, HB2.out⟩
    case false =>
     have HRR : Hid (rightC (cAt cs k) = true) := by unfold Hid; rw [HK.out]; exact HR.out
     by_cases h2 : z = 2
     case neg =>
      have HT := hide (all_next hall.out (okP_w HRR.out hal (by rw [HZ.out]; exact h2)))
      have e2 : ((z : Int) == 2) = false := by simp; omega
      clear h2 hal hall
      obtain ⟨t0, t1, t2, t3, t4, t5, t6, -⟩ := cells7 HA2.out
      go_wp2
      refine rgH (fun w' => Below w1.heap.size w1 w') [(false, 0), (false, 1), (false, 2), (false, 3), (true, 4), (true, 5), (true, 6), (true, 7), (true, 8), (false, 9), (false, 10), (false, 11), (false, 12), (false, 13)] bd1 ?_
      refine alH fun K hK => ?_
      go_wp2
      refine hK.out _ _ bd1 ?_
      clear hK K
      refine alH fun K hK => ?_
      go_wp2
      refine hK.out _ _ bd1 ?_
      clear hK K
      refine alH fun K hK => ?_
      go_wp2
      refine hK.out _ _ bd1 ?_
      clear hK K
      refine alH fun K hK => ?_
      go_wp2
      refine hK.out _ _ bd1 ?_
      clear hK K
      iterate 5 refine skH (h := ?_)
      refine paH bd1 (h := ?_)
      refine paH bd1 (h := ?_)
      refine paH bd1 (h := ?_)
      refine alH fun K hK => ?_
      go_wp2
      refine hK.out _ _ bd1 ?_
      clear hK K
      refine alH fun K hK => ?_
      go_wp2
      refine hK.out _ _ bd1 ?_
      clear hK K
      refine chainH_nil ?_
      go_wp2
      go_roundw
      case rel => exact ⟨k + 1, by omega, by go_num, HT, HB2.out.trans (bd1.mono HB2.out.size)⟩
      case measure => simp [intOf]; omega
     case pos =>
      have e2 : ((z : Int) == 2) = true := by simp; omega
      have hz2 : wAt cs k = 2 := by rw [HZ.out]; exact h2
      have hk1 : k + 1 < n := by have q := alone_2 hz2 hal; have q2 := wAt_lt (l := cs) (i := k + 1) (by omega); rw [HN.out] at q2; exact q2
      obtain ⟨⟨r', x', y', z', ⟨f', g', b'⟩⟩, hc'⟩ : ∃ q, cAt cs (k + 1) = q := ⟨_, rfl⟩
      obtain ⟨t0, t1, t2, t3, t4, t5, t6, -⟩ := cells7 HA2.out
      have hwr : IntKind.i64.wrap ((k : Int) + 1) = (k : Int) + 1 := wrap_small _ (by omega) (by omega)
      have hw0 : (0 : Int) ≤ (k : Int) + 1 := by omega
      have hw1 : (k : Int) + 1 < (n : Int) := by omega
      have hw2 : ((k : Int) + 1).toNat = k + 1 := by omega
      by_cases he : cAt cs (k + 1) = restC (cAt cs k)
      ·have HT := hide (all_next hall.out (okP_y HRR.out hal he))
       have HQ : Hid (eqC r' x' y' (z' : Int) (f' : Int) (g' : Int) (b' : Int) 0 0 0 0 (f : Int) (g : Int) (b : Int) = true) := by
        unfold Hid
        rw [hc', HK.out] at he
        have q := eqC_cel r' x' y' z' f' g' b' 0 0 0 0 f g b
        rw [show (⟨0, 0, 0, 0, ⟨f, g, b⟩⟩ : Cel) = restC ⟨r, x, y, z, ⟨f, g, b⟩⟩ from rfl, ← he] at q
        simpa using q
       have HC' := hide hc'
       clear h2 hal hall hz2 he hc'; go_wp2
       refine rgH (fun w' => Below w1.heap.size w1 w') [(false, 0), (false, 1), (false, 2), (false, 3), (true, 4), (true, 5), (true, 6), (true, 7), (true, 8), (false, 9), (false, 10), (false, 11), (false, 12), (false, 13)] bd1 ?_
       refine alH fun K hK => ?_
       go_wp2
       refine hK.out _ _ bd1 ?_
       clear hK K
       refine alH fun K hK => ?_
       go_wp2
       refine hK.out _ _ bd1 ?_
       clear hK K
       refine alH fun K hK => ?_
       go_wp2
       refine hK.out _ _ bd1 ?_
       clear hK K
       refine alH fun K hK => ?_
       go_wp2
       refine hK.out _ _ bd1 ?_
       clear hK K
       refine stH (h := ?_)
       refine stH (h := ?_)
       refine stH (hy := fun w hS => by have hw6 := hwr; go_simp <;> with_reducible rfl) (h := ?_)
       refine stH (hy := fun w hS => by have hw7 := hw0; have hw8 := hw1; have hw9 := hw2; go_simp <;> with_reducible rfl) (h := ?_)
       refine stH (hy := fun w hS => by obtain ⟨v0, v1, v2, v3, v4, v5, v6, -⟩ := ((HC.out.below HB2.out).below hS).sevenC (k + 1) (by rw [HN.out]; exact hk1) HC'.out; go_simp <;> with_reducible rfl) (h := ?_)
       refine alH fun K hK => ?_
       go_wp2
       refine hK.out _ _ bd1 ?_
       clear hK K
       refine alH fun K hK => ?_
       go_wp2_with fail
       refine (rest_v r x y z f g b _).mono ?_
       rintro e j1 ⟨rfl, hb⟩
       have Bj1 : Below w1.heap.size w1 j1 := bd1.trans hb
       have hq := HQ.out
       clear hb; go_wp2
       refine hK.out _ _ Bj1 ?_
       clear hK K
       refine alH fun K hK => ?_
       go_wp2
       refine hK.out _ _ Bj1 ?_
       clear hK K
       refine alH fun K hK => ?_
       go_wp2
       refine hK.out _ _ Bj1 ?_
       clear hK K
       refine alH fun K hK => ?_
       go_wp2
       refine hK.out _ _ Bj1 ?_
       clear hK K
       refine chainH_nil ?_
       go_wp2
       go_roundw
       case rel => exact ⟨k + 1, by omega, by go_num, HT, HB2.out.trans (Bj1.mono HB2.out.size)⟩
       case measure => simp [intOf]; omega
      ·have HF := hide (rightL_noP cs k (by rw [HN.out]; exact hlt) (okP_n hz2 he))
       have ek : ((k : Int) == (n : Int)) = false := by simp; omega
       have HQ : Hid (eqC r' x' y' (z' : Int) (f' : Int) (g' : Int) (b' : Int) 0 0 0 0 (f : Int) (g : Int) (b : Int) = false) := by
        unfold Hid
        rw [hc', HK.out] at he
        have q := eqC_cel r' x' y' z' f' g' b' 0 0 0 0 f g b
        rw [show (⟨0, 0, 0, 0, ⟨f, g, b⟩⟩ : Cel) = restC ⟨r, x, y, z, ⟨f, g, b⟩⟩ from rfl, decide_eq_false he] at q
        exact q
       have HC' := hide hc'
       clear h2 hal hall hz2 he hc'; go_wp2
       refine rgH (fun w' => Below w1.heap.size w1 w') [(false, 0), (false, 1), (false, 2), (false, 3), (true, 4), (true, 5), (true, 6), (true, 7), (true, 8), (false, 9), (false, 10), (false, 11), (false, 12), (false, 13)] bd1 ?_
       refine alH fun K hK => ?_
       go_wp2
       refine hK.out _ _ bd1 ?_
       clear hK K
       refine alH fun K hK => ?_
       go_wp2
       refine hK.out _ _ bd1 ?_
       clear hK K
       refine alH fun K hK => ?_
       go_wp2
       refine hK.out _ _ bd1 ?_
       clear hK K
       refine alH fun K hK => ?_
       go_wp2
       refine hK.out _ _ bd1 ?_
       clear hK K
       refine stH (h := ?_)
       refine stH (h := ?_)
       refine stH (hy := fun w hS => by have hw6 := hwr; go_simp <;> with_reducible rfl) (h := ?_)
       refine stH (hy := fun w hS => by have hw7 := hw0; have hw8 := hw1; have hw9 := hw2; go_simp <;> with_reducible rfl) (h := ?_)
       refine stH (hy := fun w hS => by obtain ⟨v0, v1, v2, v3, v4, v5, v6, -⟩ := ((HC.out.below HB2.out).below hS).sevenC (k + 1) (by rw [HN.out]; exact hk1) HC'.out; go_simp <;> with_reducible rfl) (h := ?_)
       refine alH fun K hK => ?_
       go_wp2
       refine hK.out _ _ bd1 ?_
       clear hK K
       refine alH fun K hK => ?_
       go_wp2_with fail
       refine (rest_v r x y z f g b _).mono ?_
       rintro e j1 ⟨rfl, hb⟩
       have Bj1 : Below w1.heap.size w1 j1 := bd1.trans hb
       have hq := HQ.out
       clear hb; go_wp2
       refine hK.out _ _ Bj1 ?_
       clear hK K
       refine alH fun K hK => ?_
       go_wp2
       refine hK.out _ _ Bj1 ?_
       clear hK K
       refine alH fun K hK => ?_
       go_wp2
       refine hK.out _ _ Bj1 ?_
       clear hK K
       refine alH fun K hK => ?_
       go_wp2
       refine hK.out _ _ Bj1 ?_
       clear hK K
       refine chainH_nil ?_
       go_wp2; go_ret
       exact ⟨ret_bool HF.out.symm, HB2.out.trans (Bj1.mono HB2.out.size)⟩
  ·have HF : Hid (rightL cs = true) := by unfold Hid; exact rightL_yesP cs (fun j hj => hall.out j (by rw [HN.out] at hj; omega))
   have ek : ((k : Int) == (n : Int)) = true := by simp; omega
   clear hall; go_wp2; go_ret
   exact ⟨ret_bool HF.out.symm, HB.out⟩
theorem rlright_any (A : Option Addr) (n c : Nat) (cs : List Cel) (w : World) (h : Cels .i64 w A cs) (hn : cs.length = n) (hl : n ≤ 1000000) (hlb : LB cs) : Calls Tryz.prog 87 #[.slice A n c] w (Said (rightL cs) w) := by
 have HC := hide h; have HN := hide hn; have HL := hide hlb
 have nP := @neqP
 clear h hn hlb
 go_enter Tryz.func87, Tryz.ntmps87
 go_wp2
 go_loopw [3] (fun i wr => ∃ k : Nat, k ≤ n ∧ i = .int .i64 k ∧ Hid (∀ j, j < k → okAt cs j = true) ∧ Below w.heap.size w wr) (fun i _ => n - (intOf i).toNat)
 case atStart => exact ⟨0, Nat.zero_le _, rfl, (by unfold Hid; intro j hj; omega), Below.refl _ _⟩
 case round =>
  obtain ⟨k, hk, rfl, hall, hbel⟩ := hrel
  have HB := hide hbel; clear hbel
  by_cases hlt : k < n
  ·obtain ⟨b1, o1, rfl, l1, -⟩ := HC.out.at (i := k) (by rw [HN.out]; exact hlt)
   have hcb := HL.out k (by rw [HN.out]; exact hlt)
   obtain ⟨⟨r, x, y, z, ⟨f, g, b⟩⟩, hc⟩ : ∃ q, cAt cs k = q := ⟨_, rfl⟩
   rw [hc] at hcb
   obtain ⟨-, -, -, hz⟩ := hcb
   have HZ := hide (wAt_of (by rw [HN.out]; exact hlt) hc)
   have HK := hide hc
   obtain ⟨t0, t1, t2, t3, t4, t5, t6, -⟩ := (HC.out.below HB.out).sevenC k (by rw [HN.out]; exact hlt) hc
   obtain ⟨R, hR⟩ := exq (rightC ⟨r, x, y, z, ⟨f, g, b⟩⟩)
   have HR := hide hR; clear hc hR; go_wp2_with fail
   refine (rcright_any r x y z f g b hz wr).mono ?_
   rintro e w1 ⟨rfl, hb⟩
   rw [HR.out]
   clear t0 t1 t2 t3 t4 t5 t6
   have HB2 := hide (HB.out.trans (hb.mono HB.out.size))
   clear hb
   cases R
   ·have HF := hide (rightL_no cs k (by rw [HN.out]; exact hlt) (okAt_r (by rw [HK.out]; exact HR.out)))
    clear hall; go_wp2; go_ret
    exact ⟨ret_bool HF.out.symm, HB2.out⟩
   ·go_wp2_with fail
    refine (ralone_any (some ⟨b1, o1, none⟩) n c k cs w1 (HC.out.below HB2.out) HN.out hlt hl).mono ?_
    rintro e w2 ⟨rfl, rfl⟩
    cases hal : aloneC cs k
    case true =>
     have HF := hide (rightL_no cs k (by rw [HN.out]; exact hlt) (okAt_a hal))
     clear hal hall; go_wp2; go_ret
     exact ⟨ret_bool HF.out.symm, HB2.out⟩
    case false =>
     have HRR : Hid (rightC (cAt cs k) = true) := by unfold Hid; rw [HK.out]; exact HR.out
     by_cases h2 : z = 0
     case neg =>
      have HT := hide (all_next hall.out (okAt_w HRR.out hal (by rw [HZ.out]; exact h2)))
      have e2 : ((z : Int) == 0) = false := by simp; omega
      obtain ⟨t0, t1, t2, t3, t4, t5, t6, -⟩ := (HC.out.below HB2.out).sevenC k (by rw [HN.out]; exact hlt) HK.out
      clear h2 hal hall; go_wp2
      go_quiet (fail)
      go_wp2
      go_roundw
      case rel => exact ⟨k + 1, by omega, by go_num, HT, HB2.out.drewN _⟩
      case measure => simp [intOf]; omega
     case pos =>
      have e2 : ((z : Int) == 0) = true := by simp; omega
      have hz2 : wAt cs k = 0 := by rw [HZ.out]; exact h2
      obtain ⟨j, rfl⟩ : ∃ j, k = j + 1 := ⟨k - 1, by have := (alone_0 hz2 hal).1; omega⟩
      obtain ⟨⟨r', x', y', z', ⟨f', g', b'⟩⟩, hc'⟩ : ∃ q, cAt cs j = q := ⟨_, rfl⟩
      obtain ⟨t0, t1, t2, t3, t4, t5, t6, -⟩ := (HC.out.below HB2.out).sevenC (j + 1) (by rw [HN.out]; exact hlt) HK.out
      obtain ⟨v0, v1, v2, v3, v4, v5, v6, -⟩ := (HC.out.below HB2.out).sevenC j (by rw [HN.out]; omega) hc'
      by_cases he : (cAt cs (j + 1)).p = (cAt cs (j + 1 - 1)).p
      ·have HT := hide (all_next hall.out (okAt_y HRR.out hal he))
       have hq : eqP (f : Int) (g : Int) (b : Int) (f' : Int) (g' : Int) (b' : Int) = true := by
        rw [show j + 1 - 1 = j by omega, hc', HK.out] at he
        rw [eqP_pen]
        exact decide_eq_true he
       clear h2 hal hall hz2 he hc'; go_wp2
       go_quiet (fail)
       go_wp2
       go_roundw
       case rel => exact ⟨j + 1 + 1, by omega, by go_num, HT, HB2.out.drewN _⟩
       case measure => simp [intOf]; omega
      ·have HF := hide (rightL_no cs (j + 1) (by rw [HN.out]; exact hlt) (okAt_n hz2 he))
       have hq : eqP (f : Int) (g : Int) (b : Int) (f' : Int) (g' : Int) (b' : Int) = false := by
        rw [show j + 1 - 1 = j by omega, hc', HK.out] at he
        rw [eqP_pen]
        exact decide_eq_false he
       clear h2 hal hall hz2 he hc'; go_wp2
       go_quiet (fail)
       go_wp2; go_ret
       exact ⟨ret_bool HF.out.symm, HB2.out.drewN _⟩
  ·have HF : Hid (rightL cs = true) := by unfold Hid; exact (rightL_iff cs).2 (fun j hj => hall.out j (by rw [HN.out] at hj; omega))
   clear hall; go_wp2; go_ret
   exact ⟨ret_bool HF.out.symm, HB.out⟩
theorem Cels.addr {k : IntKind} {w : World} {A : Option Addr} {z : List Cel} (h : Cels k w A z) (h1 : 1 ≤ z.length) : A = none → False := by
 rintro rfl
 rcases h with rfl | ⟨b, off, e, _⟩
 ·simp at h1
 ·cases e
theorem with7_any (A : Option Addr) (R cap row col : Nat) (ls : List (List Cel)) (w : World) (h : Lns w A ls) (hR : ls.length = R) (hR2 : R ≤ 512) (r : Nat) (hr : r < R) (Al : Option Addr) (nl cl : Nat) (zs : List Cel) (hz : Cels .i64 w Al zs) (hn : zs.length = nl) (h1 : 1 ≤ nl) (hl : nl ≤ 1000000) :
  Calls Tryz.prog 88 #[.agg #[.slice A R cap, .int .i64 row, .int .i64 col], .int .i64 r, .slice Al nl cl] w (GaveD R ⟨ls.set r zs, row, col⟩ w) := by
 obtain ⟨W0, hW0⟩ := exq ((w.alloc (.cells #[.slice A R cap, .int .i64 row, .int .i64 col] 26)).alloc (.cells #[.slice none 0 0, .int .i64 0, .int .i64 0] 26))
 have HB0 : Hid (Below w.heap.size w W0) := by unfold Hid; rw [← hW0]; exact two_new _ _ _ _ _
 have HP0 : Hid (Whole W0 w.heap.size 26 [.slice A R cap, .int .i64 row, .int .i64 col]) := by unfold Hid; rw [← hW0]; exact (Whole.new _ _ _).alloc _
 have HQ0 : Hid (Whole W0 (w.heap.size + 1) 26 [.slice none 0 0, .int .i64 0, .int .i64 0]) := by unfold Hid; rw [← hW0]; exact whole_snd _ _ _ _
 obtain ⟨F, hF⟩ : ∃ F : Nat → List Cel, (fun i => if i = r then zs else lAt ls i) = F := ⟨_, rfl⟩
 have HF1 : Hid (F r = zs) := by unfold Hid; rw [← hF]; simp
 have HF2 : Hid (∀ i, i ≠ r → F i = lAt ls i) := by unfold Hid; intro i hi; rw [← hF]; simp [hi]
 have HFE : Hid (gtab R F = ls.set r zs) := by unfold Hid; rw [← hF, set_gtab, hR]
 have HL := hide h; have HZ := hide hz; have HN := hide hn; have HR := hide hR
 have HAl : Hid (Al = none → cl = 0) := by unfold Hid; intro e; exact absurd e (fun q => hz.addr (by omega) q)
 have HW0 := hide hW0; clear hW0 h hz hn hF hR
 go_enter Tryz.func88, Tryz.ntmps88
 go_wp2; rw [HW0.out]
 go_loopw [7, 8] (fun v i wr => ∃ (k : Nat), k ≤ R ∧ i = .int .i64 k ∧ RwsC w.heap.size w wr v (gtab k F) ∧ Whole wr w.heap.size 26 [.slice A R cap, .int .i64 row, .int .i64 col] ∧ Whole wr (w.heap.size + 1) 26 [.slice none 0 0, .int .i64 0, .int .i64 0]) (fun _ i _ => R - (intOf i).toNat)
 case atStart => exact ⟨0, Nat.zero_le _, rfl, RwsC.from0 HB0.out.size HB0.out, HP0.out, HQ0.out⟩
 case round =>
  obtain ⟨k, hk, rfl, hv, hp, hq⟩ := hrel
  have HV := hide hv; have HQ := hide hq; have HP := hide hp; clear hv hq hp
  obtain ⟨b0, b1, b2, lb⟩ := cells3 HP.out
  by_cases hlt : k < R
  ·by_cases hkr : k = r
   ·have e1 : ((k : Int) == (r : Int)) = true := by simp [hkr]
    have HKR := hide hkr; clear hkr
    go_wp2_with (at_builtin; refine stopw ?_)
    unfold Hid
    refine wpList_catC elemLC rfl _ _ rfl rfl rfl (OwnC.empty wr 95 .i64) ((HZ.out.below HV.out.bel).alloc _) HN.out HAl.out (by simp; omega) (by omega) ?_
    intro x w1 hx
    simp only [List.nil_append] at hx
    have HX := hide hx.rowOk; have HB1 := hide hx.bel
    obtain ⟨Ax, cx, rfl, -⟩ := hx.rowOk
    clear hx
    have HV1 := hide (HV.out.later HB1.out)
    have HP1 := hide (HP.out.later HB1.out)
    have HQ1 := hide (HQ.out.later HB1.out)
    clear b0 b1 b2 lb
    go_wp2_with (at_builtin; refine stopw ?_)
    unfold Hid
    refine wpList_pushL rfl _ _ rfl rfl rfl HV1.out HX.out (by rw [gtab_len]; omega) ?_
    intro v2 w2 hown hoth
    have HV2 : Hid (RwsC w.heap.size w w2 v2 (gtab (k + 1) F)) := by unfold Hid; rw [gtab_snoc, HKR.out, HF1.out, ← HKR.out]; exact hown
    have HQ2 := hide (hoth _ _ _ (by decide) HQ1.out)
    have HP2 := hide (hoth _ _ _ (by decide) HP1.out)
    clear hown hoth; go_wp2
    go_roundw
    case rel => exact ⟨k + 1, by omega, by go_num, HV2.out, HP2.out, HQ2.out⟩
    case measure => simp [intOf]; omega
   ·have e1 : ((k : Int) == (r : Int)) = false := by simp; omega
    obtain ⟨b, A', c', rfl, lb', hc, hrow, -, -⟩ := (HL.out.below HV.out.bel).at (i := k) (by rw [HR.out]; exact hlt)
    have HX := hide hrow
    have HFk := hide (HF2.out k hkr)
    clear hrow hkr
    go_wp2_with (at_builtin; refine stopw ?_)
    unfold Hid
    refine wpList_pushL rfl _ _ rfl rfl rfl HV.out HX.out (by rw [gtab_len]; omega) ?_
    intro v2 w2 hown hoth
    have HV2 : Hid (RwsC w.heap.size w w2 v2 (gtab (k + 1) F)) := by unfold Hid; rw [gtab_snoc, HFk.out]; exact hown
    have HQ2 := hide (hoth _ _ _ (by decide) HQ.out)
    have HP2 := hide (hoth _ _ _ (by decide) HP.out)
    clear hown hoth b0 b1 b2 lb hc lb'; go_wp2
    go_roundw
    case rel => exact ⟨k + 1, by omega, by go_num, HV2.out, HP2.out, HQ2.out⟩
    case measure => simp [intOf]; omega
  ·obtain rfl : k = R := by omega
   obtain ⟨d0, d1, d2, ld⟩ := cells3 HQ.out
   have hz := HQ.out.frozen
   obtain ⟨A3, c3, rfl, -, -, -, hL⟩ := HV.out.form
   rw [gtab_len] at HV ⊢
   have HL3 := hide hL; clear hL; go_wp2
   refine retG Tryz.results88 rfl rfl (put3 HQ.out _ _ _) ⟨A3, c3, rfl, ?_, below_put3 HV.out.bel (by omega) _ _ _⟩
   rw [HFE.out] at HL3
   exact HL3.out.put3 HQ.out (by decide) (by decide) _ _ _
theorem rgput_any (A : Option Addr) (R C cap : Nat) (g : Gd) (w : World) (h : Lns w A g.ls) (hok : GOk g R C) (R0 at_ r m x : Int) (d f y b : Nat) (hd : d < 256) (ha : -9223372036854775808 ≤ at_ ∧ at_ < 9223372036854775808) :
  Calls Tryz.prog 61 #[.agg #[.slice A R cap, .int .i64 g.row, .int .i64 g.col], .int .i64 R0, .int .i64 at_, .agg #[.int .i64 r, .int .i64 m, .int .i64 x, .int .u8 d, .int .u8 f, .int .u8 y, .int .u8 b]] w (GaveD2 R (putG g R0 at_ ⟨r, m, x, d, ⟨f, y, b⟩⟩) (putGOk g R0 at_ ⟨r, m, x, d, ⟨f, y, b⟩⟩) w) := by
 obtain ⟨W0, hW0⟩ := exq (((w.alloc (.cells #[.slice A R cap, .int .i64 g.row, .int .i64 g.col] 26)).alloc (.cells #[.int .i64 r, .int .i64 m, .int .i64 x, .int .u8 d, .int .u8 f, .int .u8 y, .int .u8 b] 95)).alloc (.cells #[.slice none 0 0, .int .i64 0, .int .i64 0] 26))
 have HB0 : Hid (Below w.heap.size w W0) := by unfold Hid; rw [← hW0]; exact three_new w _ _ _
 have HX0 : Hid (Whole W0 (w.heap.size) 26 [.slice A R cap, .int .i64 g.row, .int .i64 g.col]) := by unfold Hid; rw [← hW0]; exact (((Whole.new _ _ _).alloc _).alloc _)
 have HX1 : Hid (Whole W0 (w.heap.size + 1) 95 [.int .i64 r, .int .i64 m, .int .i64 x, .int .u8 d, .int .u8 f, .int .u8 y, .int .u8 b]) := by unfold Hid; rw [← hW0]; exact ((whole_snd _ _ _ _).alloc _)
 have HX2 : Hid (Whole W0 (w.heap.size + 2) 26 [.slice none 0 0, .int .i64 0, .int .i64 0]) := by unfold Hid; rw [← hW0]; exact (whole_thd w _ _ 26 [.slice none 0 0, .int .i64 0, .int .i64 0])
 have HW0 := hide hW0; clear hW0
 have HL := hide (h.below HB0.out)
 have HGO := hide hok
 have hR1 := hok.r1
 have hR2 := hok.r2
 have hC0 := hok.c1
 have hC2 := hok.c2
 have hC1 : C ≤ 1000000 := by omega
 have HLen := hide hok.len
 obtain ⟨p0, p1, p2, lp⟩ := cells3 HX0.out
 obtain ⟨z0, z1, z2, lz⟩ := cells3 HX2.out
 have hzf := HX2.out.frozen
 have HA := hide ha; clear h hok ha
 by_cases hr : hasG R R0
 ·obtain ⟨q, hq⟩ : ∃ q : Nat, R0 = (q : Int) := ⟨R0.toNat, by unfold hasG at hr; omega⟩
  subst hq
  have hqR : q < R := by unfold hasG at hr; omega
  clear hr
  have HGE : Hid (putG g (q : Int) at_ ⟨r, m, x, d, ⟨f, y, b⟩⟩ = { g with ls := g.ls.set q (putC (lAt g.ls q) at_ ⟨r, m, x, d, ⟨f, y, b⟩⟩) }) := by unfold Hid putG; rw [if_pos (by unfold hasG; rw [HLen.out]; omega), Int.toNat_natCast]
  have HGK : Hid (putGOk g (q : Int) at_ ⟨r, m, x, d, ⟨f, y, b⟩⟩ = putOk (lAt g.ls q) at_ ⟨r, m, x, d, ⟨f, y, b⟩⟩) := by unfold Hid putGOk; rw [HLen.out, hasG_in hqR, Int.toNat_natCast, Bool.true_and]
  obtain ⟨X, hX⟩ := exq (putC (lAt g.ls q) at_ ⟨r, m, x, d, ⟨f, y, b⟩⟩)
  obtain ⟨ok, hok⟩ := exq (putOk (lAt g.ls q) at_ ⟨r, m, x, d, ⟨f, y, b⟩⟩)
  rw [hX] at HGE
  rw [hok] at HGK
  have HNr := hide ((HGO.out.each q hqR).1)
  have HXL : Hid (X.length = C) := by unfold Hid; rw [← hX, put_len, HNr.out]
  have HXX := hide hX; have HOK := hide hok; clear hX hok
  go_enter Tryz.func61, Tryz.ntmps61
  go_wp2_with fail
  rw [HW0.out]
  refine (rhas_any A R cap g.row g.col q W0).mono ?_
  rintro e W1 ⟨rfl, hb⟩
  rw [hasG_in hqR]
  have HL1 := hide (HL.out.below hb)
  have HP := hide (HX0.out.later hb)
  have HZ := hide (HX2.out.later hb)
  have HY := hide (HX1.out.later hb)
  have HB1 := hide (HB0.out.trans (hb.mono HB0.out.size))
  clear hb p0 p1 p2 lp z0 z1 z2 lz hzf
  obtain ⟨b0, A', c', rfl, lb, hcell, -, hcels, hA'⟩ := HL1.out.at (i := q) (by rw [HLen.out]; exact hqR)
  rw [HNr.out] at hcell
  have HCr := hide hcels; clear hcels
  obtain ⟨p0, p1, p2, lp⟩ := cells3 HP.out
  obtain ⟨a0, a1, a2, a3, a4, a5, a6, la⟩ := cells7 HY.out
  go_wp2
  refine rgL (fun w' => Below W1.heap.size W1 w') 12 [(0, 2), (0, 5), (0, 0), (0, 1), (0, 3), (0, 4), (1, 6), (1, 7), (1, 8), (2, 9), (2, 11), (1, 10), (3, 12)] bd1 ?_
  iterate 3 refine stL (h := ?_)
  refine stL (hy := fun w hS => by obtain ⟨e0, e1, e2, -⟩ := cells3 (HP.out.later hS); go_simp <;> with_reducible rfl) (h := ?_)
  refine stL (h := ?_)
  refine stL (hy := fun w hS => by have f0 : w.cell? ⟨b0, q, none⟩ = some (.slice A' C c') := (hS.cell (p := ⟨b0, q, none⟩) lb).trans hcell; go_simp <;> with_reducible rfl) (h := ?_)
  refine alL fun K hK => ?_
  go_wp2
  refine hK.out _ _ bd1 ?_
  clear hK K
  refine alL fun K hK => ?_
  go_wp2_with fail
  refine (rput_v at_ r m x d f y b HA.out HXX.out HOK.out HCr.out.drew HNr.out hC1 hd).mono ?_
  rintro e k1 ⟨A1, c1, rfl, hc1, hb⟩
  have HC1 := hide hc1; clear hc1
  have Bk1 : Below W1.heap.size W1 k1 := ((Below.refl W1.heap.size W1).drewN 1).trans hb
  clear hb; go_wp2
  refine hK.out _ _ (Bk1) ?_
  clear hK K
  refine alL fun K hK => ?_
  go_wp2
  refine hK.out _ _ (Bk1) ?_
  clear hK K
  refine puL (h := ?_)
  refine puL (h := ?_)
  refine alL fun K hK => ?_
  go_wp2
  refine hK.out _ _ (Bk1) ?_
  clear hK K
  refine laL fun K hK => ?_
  go_wp2
  refine hK.out _ _ ?_
  clear hK K
  refine chainL_nil ?_
  have HBk := hide Bk1; clear Bk1 a0 a1 a2 a3 a4 a5 a6 la
  have HL2 := hide (HL1.out.below HBk.out)
  have HP2 := hide (HP.out.later HBk.out)
  have HZ2 := hide (HZ.out.later HBk.out)
  have HB2 := hide (HB1.out.trans (HBk.out.mono HB1.out.size))
  clear p0 p1 p2 lp
  obtain ⟨p0, p1, p2, lp⟩ := cells3 HP2.out
  go_wp2_with fail
  refine (with7_any _ R cap g.row g.col g.ls k1 HL2.out HLen.out hR2 q hqR A1 C c1 X HC1.out HXL.out hC0 hC1).mono ?_
  rintro e k2 ⟨A2, cap2, rfl, hl, hb⟩
  have HL3 := hide hl
  have HZ3 := hide (HZ2.out.later hb)
  have HB3 := hide (HB2.out.trans (hb.mono HB2.out.size))
  clear hl hb p0 p1 p2 lp
  obtain ⟨z0, z1, z2, lz⟩ := cells3 HZ3.out
  have hzf := HZ3.out.frozen
  go_wp2
  refine retG2 Tryz.results61 rfl rfl rfl (put3 HZ3.out _ _ _) ⟨A2, cap2, ?_, ?_, below_put3 HB3.out (by omega) _ _ _⟩
  ·rw [HGE.out, HGK.out]; rfl
  ·rw [HGE.out]
   exact HL3.out.put3 HZ3.out (by decide) (by decide) _ _ _
 ·have HD : Hid (decide (hasG R R0) = false) := by unfold Hid; simp [hr]
  have HGE : Hid (putG g R0 at_ ⟨r, m, x, d, ⟨f, y, b⟩⟩ = g ∧ putGOk g R0 at_ ⟨r, m, x, d, ⟨f, y, b⟩⟩ = false) := by
   unfold Hid putG putGOk
   rw [HLen.out, if_neg hr]
   simp [hr]
  clear hr
  go_enter Tryz.func61, Tryz.ntmps61
  go_wp2_with fail
  rw [HW0.out]
  refine (rhas_any A R cap g.row g.col R0 W0).mono ?_
  rintro e W1 ⟨rfl, hb⟩
  rw [HD.out]
  have HL1 := hide (HL.out.below hb)
  have HP := hide (HX0.out.later hb)
  have HZ := hide (HX2.out.later hb)
  have HB1 := hide (HB0.out.trans (hb.mono HB0.out.size))
  clear hb p0 p1 p2 lp z0 z1 z2 lz hzf
  obtain ⟨p0, p1, p2, lp⟩ := cells3 HP.out
  obtain ⟨z0, z1, z2, lz⟩ := cells3 HZ.out
  have hzf := HZ.out.frozen
  go_wp2
  refine retG2 Tryz.results61 rfl rfl rfl (put3 HZ.out _ _ _) ⟨A, cap, ?_, ?_, below_put3 HB1.out (by omega) _ _ _⟩
  ·rw [HGE.out.1, HGE.out.2]; rfl
  ·rw [HGE.out.1]
   exact HL1.out.put3 HZ.out (by decide) (by decide) _ _ _
theorem rgmark_any (A : Option Addr) (R C cap : Nat) (g : Gd) (w : World) (h : Lns w A g.ls) (hok : GOk g R C) (R0 at_ y : Int) :
  Calls Tryz.prog 63 #[.agg #[.slice A R cap, .int .i64 g.row, .int .i64 g.col], .int .i64 R0, .int .i64 at_, .int .i64 y] w (GaveD2 R (markG g R0 at_ y) (markGOk g R0 at_ y) w) := by
 obtain ⟨W0, hW0⟩ := exq ((w.alloc (.cells #[.slice A R cap, .int .i64 g.row, .int .i64 g.col] 26)).alloc (.cells #[.slice none 0 0, .int .i64 0, .int .i64 0] 26))
 have HB0 : Hid (Below w.heap.size w W0) := by unfold Hid; rw [← hW0]; exact two_new _ _ _ _ _
 have HX0 : Hid (Whole W0 (w.heap.size) 26 [.slice A R cap, .int .i64 g.row, .int .i64 g.col]) := by unfold Hid; rw [← hW0]; exact ((Whole.new _ _ _).alloc _)
 have HX1 : Hid (Whole W0 (w.heap.size + 1) 26 [.slice none 0 0, .int .i64 0, .int .i64 0]) := by unfold Hid; rw [← hW0]; exact (whole_snd _ _ _ _)
 have HW0 := hide hW0; clear hW0
 have HL := hide (h.below HB0.out)
 have HGO := hide hok
 have hR1 := hok.r1
 have hR2 := hok.r2
 have hC0 := hok.c1
 have hC2 := hok.c2
 have hC1 : C ≤ 1000000 := by omega
 have HLen := hide hok.len
 obtain ⟨p0, p1, p2, lp⟩ := cells3 HX0.out
 obtain ⟨z0, z1, z2, lz⟩ := cells3 HX1.out
 have hzf := HX1.out.frozen
 clear h hok
 by_cases hr : hasG R R0
 ·obtain ⟨q, hq⟩ : ∃ q : Nat, R0 = (q : Int) := ⟨R0.toNat, by unfold hasG at hr; omega⟩
  subst hq
  have hqR : q < R := by unfold hasG at hr; omega
  clear hr
  have HGE : Hid (markG g (q : Int) at_ y = { g with ls := g.ls.set q ((lmarkC (lAt g.ls q) at_ y).1) }) := by unfold Hid markG; rw [if_pos (by unfold hasG; rw [HLen.out]; omega), Int.toNat_natCast]
  have HGK : Hid (markGOk g (q : Int) at_ y = (lmarkC (lAt g.ls q) at_ y).2) := by unfold Hid markGOk; rw [HLen.out, hasG_in hqR, Int.toNat_natCast, Bool.true_and]
  obtain ⟨X, hX⟩ := exq ((lmarkC (lAt g.ls q) at_ y).1)
  obtain ⟨ok, hok⟩ := exq ((lmarkC (lAt g.ls q) at_ y).2)
  rw [hX] at HGE
  rw [hok] at HGK
  have HNr := hide ((HGO.out.each q hqR).1)
  have HXL : Hid (X.length = C) := by unfold Hid; rw [← hX, lmark_len, HNr.out]
  have HXX : Hid (lmarkC (lAt g.ls q) at_ y = (X, ok)) := by unfold Hid; rw [← hX, ← hok]
  clear hX hok
  go_enter Tryz.func63, Tryz.ntmps63
  go_wp2_with fail
  rw [HW0.out]
  refine (rhas_any A R cap g.row g.col q W0).mono ?_
  rintro e W1 ⟨rfl, hb⟩
  rw [hasG_in hqR]
  have HL1 := hide (HL.out.below hb)
  have HP := hide (HX0.out.later hb)
  have HZ := hide (HX1.out.later hb)
  have HB1 := hide (HB0.out.trans (hb.mono HB0.out.size))
  clear hb p0 p1 p2 lp z0 z1 z2 lz hzf
  obtain ⟨b0, A', c', rfl, lb, hcell, -, hcels, hA'⟩ := HL1.out.at (i := q) (by rw [HLen.out]; exact hqR)
  rw [HNr.out] at hcell
  have HCr := hide hcels; clear hcels
  obtain ⟨p0, p1, p2, lp⟩ := cells3 HP.out
  go_wp2_with fail
  refine (rlmark_v at_ y HXX.out HCr.out HNr.out hC1 hA').mono ?_
  rintro e k1 ⟨A1, c1, rfl, hc1, hb⟩
  have HC1 := hide hc1; clear hc1; have HBk := hide hb; clear hb
  have HL2 := hide (HL1.out.below HBk.out)
  have HP2 := hide (HP.out.later HBk.out)
  have HZ2 := hide (HZ.out.later HBk.out)
  have HB2 := hide (HB1.out.trans (HBk.out.mono HB1.out.size))
  clear p0 p1 p2 lp
  obtain ⟨p0, p1, p2, lp⟩ := cells3 HP2.out
  go_wp2_with fail
  refine (with7_any _ R cap g.row g.col g.ls k1 HL2.out HLen.out hR2 q hqR A1 C c1 X HC1.out HXL.out hC0 hC1).mono ?_
  rintro e k2 ⟨A2, cap2, rfl, hl, hb⟩
  have HL3 := hide hl
  have HZ3 := hide (HZ2.out.later hb)
  have HB3 := hide (HB2.out.trans (hb.mono HB2.out.size))
  clear hl hb p0 p1 p2 lp
  obtain ⟨z0, z1, z2, lz⟩ := cells3 HZ3.out
  have hzf := HZ3.out.frozen
  go_wp2
  refine retG2 Tryz.results63 rfl rfl rfl (put3 HZ3.out _ _ _) ⟨A2, cap2, ?_, ?_, below_put3 HB3.out (by omega) _ _ _⟩
  ·rw [HGE.out, HGK.out]; rfl
  ·rw [HGE.out]
   exact HL3.out.put3 HZ3.out (by decide) (by decide) _ _ _
 ·have HD : Hid (decide (hasG R R0) = false) := by unfold Hid; simp [hr]
  have HGE : Hid (markG g R0 at_ y = g ∧ markGOk g R0 at_ y = false) := by
   unfold Hid markG markGOk
   rw [HLen.out, if_neg hr]
   simp [hr]
  clear hr
  go_enter Tryz.func63, Tryz.ntmps63
  go_wp2_with fail
  rw [HW0.out]
  refine (rhas_any A R cap g.row g.col R0 W0).mono ?_
  rintro e W1 ⟨rfl, hb⟩
  rw [HD.out]
  have HL1 := hide (HL.out.below hb)
  have HP := hide (HX0.out.later hb)
  have HZ := hide (HX1.out.later hb)
  have HB1 := hide (HB0.out.trans (hb.mono HB0.out.size))
  clear hb p0 p1 p2 lp z0 z1 z2 lz hzf
  obtain ⟨p0, p1, p2, lp⟩ := cells3 HP.out
  obtain ⟨z0, z1, z2, lz⟩ := cells3 HZ.out
  have hzf := HZ.out.frozen
  go_wp2
  refine retG2 Tryz.results63 rfl rfl rfl (put3 HZ.out _ _ _) ⟨A, cap, ?_, ?_, below_put3 HB1.out (by omega) _ _ _⟩
  ·rw [HGE.out.1, HGE.out.2]; rfl
  ·rw [HGE.out.1]
   exact HL1.out.put3 HZ.out (by decide) (by decide) _ _ _
theorem rgscroll_any (A : Option Addr) (R C cap : Nat) (g : Gd) (w : World) (h : Lns w A g.ls) (hok : GOk g R C) (n : Int) (f g2 b : Nat) :
  Calls Tryz.prog 68 #[.agg #[.slice A R cap, .int .i64 g.row, .int .i64 g.col], .int .i64 n, .agg #[.int .u8 f, .int .u8 g2, .int .u8 b]] w (GaveD R (scrollG g C n ⟨f, g2, b⟩) w) := by
 obtain ⟨W0, hW0⟩ := exq (((w.alloc (.cells #[.slice A R cap, .int .i64 g.row, .int .i64 g.col] 26)).alloc (.cells #[.int .u8 f, .int .u8 g2, .int .u8 b] 93)).alloc (.cells #[.slice none 0 0, .int .i64 0, .int .i64 0] 26))
 have HB0 : Hid (Below w.heap.size w W0) := by unfold Hid; rw [← hW0]; exact three_new w _ _ _
 have HX0 : Hid (Whole W0 (w.heap.size) 26 [.slice A R cap, .int .i64 g.row, .int .i64 g.col]) := by unfold Hid; rw [← hW0]; exact (((Whole.new _ _ _).alloc _).alloc _)
 have HX1 : Hid (Whole W0 (w.heap.size + 1) 93 [.int .u8 f, .int .u8 g2, .int .u8 b]) := by unfold Hid; rw [← hW0]; exact ((whole_snd _ _ _ _).alloc _)
 have HX2 : Hid (Whole W0 (w.heap.size + 2) 26 [.slice none 0 0, .int .i64 0, .int .i64 0]) := by unfold Hid; rw [← hW0]; exact (whole_thd w _ _ 26 [.slice none 0 0, .int .i64 0, .int .i64 0])
 have HW0 := hide hW0; clear hW0; have HL := hide h
 have hR1 := hok.r1
 have hR2 := hok.r2
 have hC0 := hok.c1
 have hC2 := hok.c2
 have HLen := hide hok.len
 have HC0 := hide (hok.each 0 hok.r1).1
 obtain ⟨p0, p1, p2, lp⟩ := cells3 HX0.out
 obtain ⟨a0, a1, a2, la⟩ := cells3 HX1.out
 clear h hok
 by_cases hp : rightN ⟨f, g2, b⟩ = true
 ·have HPR := hide hp
  clear hp
  by_cases h1 : (R : Int) < n
  ·have hn1 : (R : Int) < n := h1
   have HCL : Hid (clampI n R = (R : Int)) := by unfold Hid clampI; omega
   obtain ⟨F, hF⟩ := exq (scrollAt g.ls C (clampI n R) ⟨f, g2, b⟩)
   have HGE : Hid (scrollG g C n ⟨f, g2, b⟩ = { g with ls := gtab R F }) := by unfold Hid scrollG; rw [if_pos HPR.out, HLen.out, hF]
   have HF : Hid (∀ i, F i = if 0 ≤ (i : Int) + (R : Int) ∧ (i : Int) + (R : Int) < (R : Int) then lAt g.ls ((i : Int) + (R : Int)).toNat else tab C (fun _ => blankC ⟨f, g2, b⟩)) := by
    unfold Hid; intro i
    rw [← hF, HCL.out]
    unfold scrollAt
    rw [HLen.out]
   clear hF HCL h1
   go_enter Tryz.func68, Tryz.ntmps68
   go_wp2_with fail
   rw [HW0.out]
   refine (rright_any f g2 b W0).mono ?_
   rintro e W1 ⟨rfl, hb⟩
   rw [HPR.out]
   have HP0 := hide (HX0.out.later hb)
   have HY0 := hide (HX1.out.later hb)
   have HZ0 := hide (HX2.out.later hb)
   have HB1 := hide (HB0.out.trans (hb.mono HB0.out.size))
   clear hb p0 p1 p2 lp a0 a1 a2 la
   obtain ⟨p0, p1, p2, lp⟩ := cells3 HP0.out
   go_wp2; clear p0 p1 p2 lp
   go_loopw [8, 9] (fun v i wr => ∃ (k : Nat), k ≤ R ∧ i = .int .i64 k ∧ RwsC w.heap.size w wr v (gtab k F) ∧ Whole wr w.heap.size 26 [.slice A R cap, .int .i64 g.row, .int .i64 g.col] ∧ Whole wr (w.heap.size + 1) 93 [.int .u8 f, .int .u8 g2, .int .u8 b] ∧ Whole wr (w.heap.size + 2) 26 [.slice none 0 0, .int .i64 0, .int .i64 0]) (fun _ i _ => R - (intOf i).toNat)
   case atStart => exact ⟨0, Nat.zero_le _, rfl, RwsC.from0 HB1.out.size HB1.out, HP0.out, HY0.out, HZ0.out⟩
   case round =>
    obtain ⟨k, hk, rfl, hv, hp, hy, hz⟩ := hrel
    have HV := hide hv; have HP := hide hp; have HY := hide hy; have HZ := hide hz
    obtain ⟨Av, cv, rfl, -⟩ := hv.form
    rw [gtab_len] at HV ⊢
    clear hv hp hy hz
    by_cases hlt : k < R
    ·have HFb : Hid (F k = tab C (fun _ => blankC ⟨f, g2, b⟩)) := by unfold Hid; rw [HF.out, if_neg (by omega)]
     have h0 : 0 ≤ (k : Int) + (R : Int) := by omega
     have h3 : ¬ (k : Int) + (R : Int) < (R : Int) := by omega
     obtain ⟨p0, p1, p2, lp⟩ := cells3 HP.out
     go_wp2; clear p0 p1 p2 lp
     refine rgL (fun w' => Below wr.heap.size wr w') 9 [(0, 0), (0, 1), (0, 4), (0, 6), (1, 2), (1, 3), (1, 5), (1, 7), (1, 8), (3, 9), (3, 10)] bd1 ?_
     refine stL (h := ?_)
     refine stL (hy := fun w hS => by obtain ⟨e0, e1, e2, -⟩ := cells3 (HP.out.later hS); go_simp <;> with_reducible rfl) (h := ?_)
     refine stL (hy := fun w hS => by obtain ⟨e0, e1, e2, -⟩ := cells3 (HP.out.later hS); go_simp <;> with_reducible rfl) (h := ?_)
     refine stL (hy := fun w hS => by obtain ⟨e0, e1, e2, -⟩ := cells3 (HY.out.later hS); go_simp <;> with_reducible rfl) (h := ?_)
     refine alL fun K hK => ?_
     go_wp2_with fail
     refine (rgcols_any A R cap C g.row g.col g.ls _ ((HL.out.below HV.out.bel).drewN 1) HLen.out hR1 HC0.out).mono ?_
     rintro e k1 ⟨rfl, hb⟩
     have Bk1 : Below wr.heap.size wr k1 := ((Below.refl wr.heap.size wr).drewN 1).trans hb
     clear hb; go_wp2
     refine hK.out _ _ (Bk1) ?_
     clear hK K
     refine alL fun K hK => ?_
     go_wp2_with fail
     refine (rnew_any (C : Int) k1).mono ?_
     rintro e k2 ⟨v2, rfl, hx⟩
     obtain ⟨A2, c2, rfl, hc2, -⟩ := hx.form
     have Bk2 : Below wr.heap.size wr k2 := Bk1.trans (hx.bel.mono Bk1.size)
     have HC2 := hide hc2
     rw [newC_len C hC2]
     clear hx hc2; go_wp2
     refine hK.out _ _ (Bk2) ?_
     clear hK K
     refine alL fun K hK => ?_
     go_wp2_with fail
     refine (rgcols_any A R cap C g.row g.col g.ls _ ((HL.out.below HV.out.bel).below Bk2) HLen.out hR1 HC0.out).mono ?_
     rintro e k3 ⟨rfl, hb⟩
     have Bk3 : Below wr.heap.size wr k3 := Bk2.trans (hb.mono Bk2.size)
     have HC3 := hide (HC2.out.below hb)
     clear hb; go_wp2
     refine hK.out _ _ (Bk3) ?_
     clear hK K
     refine alL fun K hK => ?_
     go_wp2_with fail
     refine (rerase_any A2 C c2 0 (C : Int) f g2 b (newC (C : Int)) k3 HC3.out (newC_len C hC2) (by omega)).mono ?_
     rintro e k4 ⟨x, rfl, hx⟩
     rw [erase_all _ C (newC_len C hC2)] at hx
     have HX := hide hx.rowOk
     have Bk4 : Below wr.heap.size wr k4 := Bk3.trans (hx.bel.mono Bk3.size)
     obtain ⟨Ax, cx, rfl, -⟩ := hx.rowOk
     have HV1 := hide (HV.out.later Bk4)
     have HP1 := hide (HP.out.later Bk4)
     have HY1 := hide (HY.out.later Bk4)
     have HZ1 := hide (HZ.out.later Bk4)
     clear hx; go_wp2
     refine hK.out _ _ (Bk4) ?_
     clear hK K
     refine alL fun K hK => ?_
     go_wp2
     refine hK.out _ _ (Bk4.alloc Bk4.size _) ?_
     clear hK K
     refine laL fun K hK => ?_
     go_wp2_with (at_builtin; refine stopw ?_)
     unfold Hid
     refine wpList_pushL rfl _ _ rfl rfl rfl HV1.out HX.out (by rw [gtab_len]; omega) ?_
     intro v9 w9 hown hoth
     have HV2 : Hid (RwsC w.heap.size w w9 v9 (gtab (k + 1) F)) := by unfold Hid; rw [gtab_snoc, HFb.out]; exact hown
     have HP2 := hide (hoth _ _ _ (by decide) HP1.out)
     have HY2 := hide (hoth _ _ _ (by decide) HY1.out)
     have HZ2 := hide (hoth _ _ _ (by decide) HZ1.out)
     clear hown hoth; go_wp2
     refine hK.out _ _ ?_
     clear hK K
     refine laL fun K hK => ?_
     go_wp2
     refine hK.out _ _ ?_
     clear hK K
     refine chainL_nil ?_
     clear Bk1 Bk2 Bk3 Bk4; go_wp2
     go_roundw
     case rel => exact ⟨k + 1, by omega, by go_num, HV2.out, HP2.out, HY2.out, HZ2.out⟩
     case measure => simp [intOf]; omega
    ·obtain rfl : k = R := by omega
     obtain ⟨p0, p1, p2, lp⟩ := cells3 HP.out
     obtain ⟨z0, z1, z2, lz⟩ := cells3 HZ.out
     have hzf := HZ.out.frozen
     obtain ⟨A3, c3, e3, -, -, -, hL⟩ := HV.out.form
     rw [gtab_len] at e3
     cases e3
     have HL3 := hide hL; clear hL; go_wp2
     refine retG Tryz.results68 rfl rfl (put3 HZ.out _ _ _) ⟨Av, cv, ?_, ?_, below_put3 HV.out.bel (by omega) _ _ _⟩
     ·rw [HGE.out]
     ·rw [HGE.out]
      exact HL3.out.put3 HZ.out (by decide) (by decide) _ _ _
  ·by_cases h2 : n < -(R : Int)
   ·have hn1 : ¬ (R : Int) < n := h1
    have hn2 : n < -(R : Int) := h2
    have HCL : Hid (clampI n R = (-(R : Int))) := by unfold Hid clampI; omega
    obtain ⟨F, hF⟩ := exq (scrollAt g.ls C (clampI n R) ⟨f, g2, b⟩)
    have HGE : Hid (scrollG g C n ⟨f, g2, b⟩ = { g with ls := gtab R F }) := by unfold Hid scrollG; rw [if_pos HPR.out, HLen.out, hF]
    have HF : Hid (∀ i, F i = if 0 ≤ (i : Int) + (-(R : Int)) ∧ (i : Int) + (-(R : Int)) < (R : Int) then lAt g.ls ((i : Int) + (-(R : Int))).toNat else tab C (fun _ => blankC ⟨f, g2, b⟩)) := by
     unfold Hid; intro i
     rw [← hF, HCL.out]
     unfold scrollAt
     rw [HLen.out]
    clear hF HCL h1 h2
    go_enter Tryz.func68, Tryz.ntmps68
    go_wp2_with fail
    rw [HW0.out]
    refine (rright_any f g2 b W0).mono ?_
    rintro e W1 ⟨rfl, hb⟩
    rw [HPR.out]
    have HP0 := hide (HX0.out.later hb)
    have HY0 := hide (HX1.out.later hb)
    have HZ0 := hide (HX2.out.later hb)
    have HB1 := hide (HB0.out.trans (hb.mono HB0.out.size))
    clear hb p0 p1 p2 lp a0 a1 a2 la
    obtain ⟨p0, p1, p2, lp⟩ := cells3 HP0.out
    go_wp2; clear p0 p1 p2 lp
    go_loopw [8, 9] (fun v i wr => ∃ (k : Nat), k ≤ R ∧ i = .int .i64 k ∧ RwsC w.heap.size w wr v (gtab k F) ∧ Whole wr w.heap.size 26 [.slice A R cap, .int .i64 g.row, .int .i64 g.col] ∧ Whole wr (w.heap.size + 1) 93 [.int .u8 f, .int .u8 g2, .int .u8 b] ∧ Whole wr (w.heap.size + 2) 26 [.slice none 0 0, .int .i64 0, .int .i64 0]) (fun _ i _ => R - (intOf i).toNat)
    case atStart => exact ⟨0, Nat.zero_le _, rfl, RwsC.from0 HB1.out.size HB1.out, HP0.out, HY0.out, HZ0.out⟩
    case round =>
     obtain ⟨k, hk, rfl, hv, hp, hy, hz⟩ := hrel
     have HV := hide hv; have HP := hide hp; have HY := hide hy; have HZ := hide hz
     obtain ⟨Av, cv, rfl, -⟩ := hv.form
     rw [gtab_len] at HV ⊢
     clear hv hp hy hz
     by_cases hlt : k < R
     ·have HFb : Hid (F k = tab C (fun _ => blankC ⟨f, g2, b⟩)) := by unfold Hid; rw [HF.out, if_neg (by omega)]
      have h0 : ¬ 0 ≤ (k : Int) + -(R : Int) := by omega
      obtain ⟨p0, p1, p2, lp⟩ := cells3 HP.out
      go_wp2; clear p0 p1 p2 lp
      refine rgL (fun w' => Below wr.heap.size wr w') 9 [(0, 0), (0, 1), (0, 4), (0, 6), (1, 2), (1, 3), (1, 5), (1, 7), (1, 8), (3, 9), (3, 10)] bd1 ?_
      refine stL (h := ?_)
      refine stL (hy := fun w hS => by obtain ⟨e0, e1, e2, -⟩ := cells3 (HP.out.later hS); go_simp <;> with_reducible rfl) (h := ?_)
      refine stL (hy := fun w hS => by obtain ⟨e0, e1, e2, -⟩ := cells3 (HP.out.later hS); go_simp <;> with_reducible rfl) (h := ?_)
      refine stL (hy := fun w hS => by obtain ⟨e0, e1, e2, -⟩ := cells3 (HY.out.later hS); go_simp <;> with_reducible rfl) (h := ?_)
      refine alL fun K hK => ?_
      go_wp2_with fail
      refine (rgcols_any A R cap C g.row g.col g.ls _ ((HL.out.below HV.out.bel).drewN 1) HLen.out hR1 HC0.out).mono ?_
      rintro e k1 ⟨rfl, hb⟩
      have Bk1 : Below wr.heap.size wr k1 := ((Below.refl wr.heap.size wr).drewN 1).trans hb
      clear hb; go_wp2
      refine hK.out _ _ (Bk1) ?_
      clear hK K
      refine alL fun K hK => ?_
      go_wp2_with fail
      refine (rnew_any (C : Int) k1).mono ?_
      rintro e k2 ⟨v2, rfl, hx⟩
      obtain ⟨A2, c2, rfl, hc2, -⟩ := hx.form
      have Bk2 : Below wr.heap.size wr k2 := Bk1.trans (hx.bel.mono Bk1.size)
      have HC2 := hide hc2
      rw [newC_len C hC2]
      clear hx hc2; go_wp2
      refine hK.out _ _ (Bk2) ?_
      clear hK K
      refine alL fun K hK => ?_
      go_wp2_with fail
      refine (rgcols_any A R cap C g.row g.col g.ls _ ((HL.out.below HV.out.bel).below Bk2) HLen.out hR1 HC0.out).mono ?_
      rintro e k3 ⟨rfl, hb⟩
      have Bk3 : Below wr.heap.size wr k3 := Bk2.trans (hb.mono Bk2.size)
      have HC3 := hide (HC2.out.below hb)
      clear hb; go_wp2
      refine hK.out _ _ (Bk3) ?_
      clear hK K
      refine alL fun K hK => ?_
      go_wp2_with fail
      refine (rerase_any A2 C c2 0 (C : Int) f g2 b (newC (C : Int)) k3 HC3.out (newC_len C hC2) (by omega)).mono ?_
      rintro e k4 ⟨x, rfl, hx⟩
      rw [erase_all _ C (newC_len C hC2)] at hx
      have HX := hide hx.rowOk
      have Bk4 : Below wr.heap.size wr k4 := Bk3.trans (hx.bel.mono Bk3.size)
      obtain ⟨Ax, cx, rfl, -⟩ := hx.rowOk
      have HV1 := hide (HV.out.later Bk4)
      have HP1 := hide (HP.out.later Bk4)
      have HY1 := hide (HY.out.later Bk4)
      have HZ1 := hide (HZ.out.later Bk4)
      clear hx; go_wp2
      refine hK.out _ _ (Bk4) ?_
      clear hK K
      refine alL fun K hK => ?_
      go_wp2
      refine hK.out _ _ (Bk4.alloc Bk4.size _) ?_
      clear hK K
      refine laL fun K hK => ?_
      go_wp2_with (at_builtin; refine stopw ?_)
      unfold Hid
      refine wpList_pushL rfl _ _ rfl rfl rfl HV1.out HX.out (by rw [gtab_len]; omega) ?_
      intro v9 w9 hown hoth
      have HV2 : Hid (RwsC w.heap.size w w9 v9 (gtab (k + 1) F)) := by unfold Hid; rw [gtab_snoc, HFb.out]; exact hown
      have HP2 := hide (hoth _ _ _ (by decide) HP1.out)
      have HY2 := hide (hoth _ _ _ (by decide) HY1.out)
      have HZ2 := hide (hoth _ _ _ (by decide) HZ1.out)
      clear hown hoth; go_wp2
      refine hK.out _ _ ?_
      clear hK K
      refine laL fun K hK => ?_
      go_wp2
      refine hK.out _ _ ?_
      clear hK K
      refine chainL_nil ?_
      clear Bk1 Bk2 Bk3 Bk4; go_wp2
      go_roundw
      case rel => exact ⟨k + 1, by omega, by go_num, HV2.out, HP2.out, HY2.out, HZ2.out⟩
      case measure => simp [intOf]; omega
     ·obtain rfl : k = R := by omega
      obtain ⟨p0, p1, p2, lp⟩ := cells3 HP.out
      obtain ⟨z0, z1, z2, lz⟩ := cells3 HZ.out
      have hzf := HZ.out.frozen
      obtain ⟨A3, c3, e3, -, -, -, hL⟩ := HV.out.form
      rw [gtab_len] at e3
      cases e3
      have HL3 := hide hL; clear hL; go_wp2
      refine retG Tryz.results68 rfl rfl (put3 HZ.out _ _ _) ⟨Av, cv, ?_, ?_, below_put3 HV.out.bel (by omega) _ _ _⟩
      ·rw [HGE.out]
      ·rw [HGE.out]
       exact HL3.out.put3 HZ.out (by decide) (by decide) _ _ _
   ·have hn1 : ¬ (R : Int) < n := h1
    have hn2 : ¬ n < -(R : Int) := h2
    have HCL : Hid (clampI n R = n) := by unfold Hid clampI; omega
    obtain ⟨F, hF⟩ := exq (scrollAt g.ls C (clampI n R) ⟨f, g2, b⟩)
    have HGE : Hid (scrollG g C n ⟨f, g2, b⟩ = { g with ls := gtab R F }) := by unfold Hid scrollG; rw [if_pos HPR.out, HLen.out, hF]
    have HF : Hid (∀ i, F i = if 0 ≤ (i : Int) + n ∧ (i : Int) + n < (R : Int) then lAt g.ls ((i : Int) + n).toNat else tab C (fun _ => blankC ⟨f, g2, b⟩)) := by
     unfold Hid; intro i
     rw [← hF, HCL.out]
     unfold scrollAt
     rw [HLen.out]
    clear hF HCL h1 h2
    go_enter Tryz.func68, Tryz.ntmps68
    go_wp2_with fail
    rw [HW0.out]
    refine (rright_any f g2 b W0).mono ?_
    rintro e W1 ⟨rfl, hb⟩
    rw [HPR.out]
    have HP0 := hide (HX0.out.later hb)
    have HY0 := hide (HX1.out.later hb)
    have HZ0 := hide (HX2.out.later hb)
    have HB1 := hide (HB0.out.trans (hb.mono HB0.out.size))
    clear hb p0 p1 p2 lp a0 a1 a2 la
    obtain ⟨p0, p1, p2, lp⟩ := cells3 HP0.out
    go_wp2; clear p0 p1 p2 lp
    go_loopw [8, 9] (fun v i wr => ∃ (k : Nat), k ≤ R ∧ i = .int .i64 k ∧ RwsC w.heap.size w wr v (gtab k F) ∧ Whole wr w.heap.size 26 [.slice A R cap, .int .i64 g.row, .int .i64 g.col] ∧ Whole wr (w.heap.size + 1) 93 [.int .u8 f, .int .u8 g2, .int .u8 b] ∧ Whole wr (w.heap.size + 2) 26 [.slice none 0 0, .int .i64 0, .int .i64 0]) (fun _ i _ => R - (intOf i).toNat)
    case atStart => exact ⟨0, Nat.zero_le _, rfl, RwsC.from0 HB1.out.size HB1.out, HP0.out, HY0.out, HZ0.out⟩
    case round =>
     obtain ⟨k, hk, rfl, hv, hp, hy, hz⟩ := hrel
     have HV := hide hv; have HP := hide hp; have HY := hide hy; have HZ := hide hz
     obtain ⟨Av, cv, rfl, -⟩ := hv.form
     rw [gtab_len] at HV ⊢
     clear hv hp hy hz
     by_cases hlt : k < R
     ·by_cases h0 : 0 ≤ (k : Int) + n
      ·by_cases h3 : (k : Int) + n < (R : Int)
       ·obtain ⟨j, hj⟩ : ∃ j : Nat, (k : Int) + n = (j : Int) := ⟨((k : Int) + n).toNat, by omega⟩
        have hjR : j < R := by omega
        have HFb : Hid (F k = lAt g.ls j) := by unfold Hid; rw [HF.out, if_pos ⟨h0, h3⟩, hj, Int.toNat_natCast]
        obtain ⟨b0, A', c', rfl, lb', hc, hrow, -, -⟩ := (HL.out.below HV.out.bel).at (i := j) (by rw [HLen.out]; exact hjR)
        have HX := hide hrow
        obtain ⟨p0, p1, p2, lp⟩ := cells3 HP.out
        clear hrow h0 h3
        go_wp2_with (at_builtin; refine stopw ?_)
        unfold Hid
        refine wpList_pushL rfl _ _ rfl rfl rfl HV.out HX.out (by rw [gtab_len]; omega) ?_
        intro v9 w9 hown hoth
        have HV2 : Hid (RwsC w.heap.size w w9 v9 (gtab (k + 1) F)) := by unfold Hid; rw [gtab_snoc, HFb.out]; exact hown
        have HP2 := hide (hoth _ _ _ (by decide) HP.out)
        have HY2 := hide (hoth _ _ _ (by decide) HY.out)
        have HZ2 := hide (hoth _ _ _ (by decide) HZ.out)
        clear hown hoth p0 p1 p2 lp hc lb'; go_wp2
        go_roundw
        case rel => exact ⟨k + 1, by omega, by go_num, HV2.out, HP2.out, HY2.out, HZ2.out⟩
        case measure => simp [intOf]; omega
       ·have HFb : Hid (F k = tab C (fun _ => blankC ⟨f, g2, b⟩)) := by unfold Hid; rw [HF.out, if_neg (fun q => h3 q.2)]
        obtain ⟨p0, p1, p2, lp⟩ := cells3 HP.out
        go_wp2; clear p0 p1 p2 lp
        refine rgL (fun w' => Below wr.heap.size wr w') 9 [(0, 0), (0, 1), (0, 4), (0, 6), (1, 2), (1, 3), (1, 5), (1, 7), (1, 8), (3, 9), (3, 10)] bd1 ?_
        refine stL (h := ?_)
        refine stL (hy := fun w hS => by obtain ⟨e0, e1, e2, -⟩ := cells3 (HP.out.later hS); go_simp <;> with_reducible rfl) (h := ?_)
        refine stL (hy := fun w hS => by obtain ⟨e0, e1, e2, -⟩ := cells3 (HP.out.later hS); go_simp <;> with_reducible rfl) (h := ?_)
        refine stL (hy := fun w hS => by obtain ⟨e0, e1, e2, -⟩ := cells3 (HY.out.later hS); go_simp <;> with_reducible rfl) (h := ?_)
        refine alL fun K hK => ?_
        go_wp2_with fail
        refine (rgcols_any A R cap C g.row g.col g.ls _ ((HL.out.below HV.out.bel).drewN 1) HLen.out hR1 HC0.out).mono ?_
        rintro e k1 ⟨rfl, hb⟩
        have Bk1 : Below wr.heap.size wr k1 := ((Below.refl wr.heap.size wr).drewN 1).trans hb
        clear hb; go_wp2
        refine hK.out _ _ (Bk1) ?_
        clear hK K
        refine alL fun K hK => ?_
        go_wp2_with fail
        refine (rnew_any (C : Int) k1).mono ?_
        rintro e k2 ⟨v2, rfl, hx⟩
        obtain ⟨A2, c2, rfl, hc2, -⟩ := hx.form
        have Bk2 : Below wr.heap.size wr k2 := Bk1.trans (hx.bel.mono Bk1.size)
        have HC2 := hide hc2
        rw [newC_len C hC2]
        clear hx hc2; go_wp2
        refine hK.out _ _ (Bk2) ?_
        clear hK K
        refine alL fun K hK => ?_
        go_wp2_with fail
        refine (rgcols_any A R cap C g.row g.col g.ls _ ((HL.out.below HV.out.bel).below Bk2) HLen.out hR1 HC0.out).mono ?_
        rintro e k3 ⟨rfl, hb⟩
        have Bk3 : Below wr.heap.size wr k3 := Bk2.trans (hb.mono Bk2.size)
        have HC3 := hide (HC2.out.below hb)
        clear hb; go_wp2
        refine hK.out _ _ (Bk3) ?_
        clear hK K
        refine alL fun K hK => ?_
        go_wp2_with fail
        refine (rerase_any A2 C c2 0 (C : Int) f g2 b (newC (C : Int)) k3 HC3.out (newC_len C hC2) (by omega)).mono ?_
        rintro e k4 ⟨x, rfl, hx⟩
        rw [erase_all _ C (newC_len C hC2)] at hx
        have HX := hide hx.rowOk
        have Bk4 : Below wr.heap.size wr k4 := Bk3.trans (hx.bel.mono Bk3.size)
        obtain ⟨Ax, cx, rfl, -⟩ := hx.rowOk
        have HV1 := hide (HV.out.later Bk4)
        have HP1 := hide (HP.out.later Bk4)
        have HY1 := hide (HY.out.later Bk4)
        have HZ1 := hide (HZ.out.later Bk4)
        clear hx; go_wp2
        refine hK.out _ _ (Bk4) ?_
        clear hK K
        refine alL fun K hK => ?_
        go_wp2
        refine hK.out _ _ (Bk4.alloc Bk4.size _) ?_
        clear hK K
        refine laL fun K hK => ?_
        go_wp2_with (at_builtin; refine stopw ?_)
        unfold Hid
        refine wpList_pushL rfl _ _ rfl rfl rfl HV1.out HX.out (by rw [gtab_len]; omega) ?_
        intro v9 w9 hown hoth
        have HV2 : Hid (RwsC w.heap.size w w9 v9 (gtab (k + 1) F)) := by unfold Hid; rw [gtab_snoc, HFb.out]; exact hown
        have HP2 := hide (hoth _ _ _ (by decide) HP1.out)
        have HY2 := hide (hoth _ _ _ (by decide) HY1.out)
        have HZ2 := hide (hoth _ _ _ (by decide) HZ1.out)
        clear hown hoth; go_wp2
        refine hK.out _ _ ?_
        clear hK K
        refine laL fun K hK => ?_
        go_wp2
        refine hK.out _ _ ?_
        clear hK K
        refine chainL_nil ?_
        clear Bk1 Bk2 Bk3 Bk4; go_wp2
        go_roundw
        case rel => exact ⟨k + 1, by omega, by go_num, HV2.out, HP2.out, HY2.out, HZ2.out⟩
        case measure => simp [intOf]; omega
      ·have HFb : Hid (F k = tab C (fun _ => blankC ⟨f, g2, b⟩)) := by unfold Hid; rw [HF.out, if_neg (fun q => h0 q.1)]
       obtain ⟨p0, p1, p2, lp⟩ := cells3 HP.out
       go_wp2; clear p0 p1 p2 lp
       refine rgL (fun w' => Below wr.heap.size wr w') 9 [(0, 0), (0, 1), (0, 4), (0, 6), (1, 2), (1, 3), (1, 5), (1, 7), (1, 8), (3, 9), (3, 10)] bd1 ?_
       refine stL (h := ?_)
       refine stL (hy := fun w hS => by obtain ⟨e0, e1, e2, -⟩ := cells3 (HP.out.later hS); go_simp <;> with_reducible rfl) (h := ?_)
       refine stL (hy := fun w hS => by obtain ⟨e0, e1, e2, -⟩ := cells3 (HP.out.later hS); go_simp <;> with_reducible rfl) (h := ?_)
       refine stL (hy := fun w hS => by obtain ⟨e0, e1, e2, -⟩ := cells3 (HY.out.later hS); go_simp <;> with_reducible rfl) (h := ?_)
       refine alL fun K hK => ?_
       go_wp2_with fail
       refine (rgcols_any A R cap C g.row g.col g.ls _ ((HL.out.below HV.out.bel).drewN 1) HLen.out hR1 HC0.out).mono ?_
       rintro e k1 ⟨rfl, hb⟩
       have Bk1 : Below wr.heap.size wr k1 := ((Below.refl wr.heap.size wr).drewN 1).trans hb
       clear hb; go_wp2
       refine hK.out _ _ (Bk1) ?_
       clear hK K
       refine alL fun K hK => ?_
       go_wp2_with fail
       refine (rnew_any (C : Int) k1).mono ?_
       rintro e k2 ⟨v2, rfl, hx⟩
       obtain ⟨A2, c2, rfl, hc2, -⟩ := hx.form
       have Bk2 : Below wr.heap.size wr k2 := Bk1.trans (hx.bel.mono Bk1.size)
       have HC2 := hide hc2
       rw [newC_len C hC2]
       clear hx hc2; go_wp2
       refine hK.out _ _ (Bk2) ?_
       clear hK K
       refine alL fun K hK => ?_
       go_wp2_with fail
       refine (rgcols_any A R cap C g.row g.col g.ls _ ((HL.out.below HV.out.bel).below Bk2) HLen.out hR1 HC0.out).mono ?_
       rintro e k3 ⟨rfl, hb⟩
       have Bk3 : Below wr.heap.size wr k3 := Bk2.trans (hb.mono Bk2.size)
       have HC3 := hide (HC2.out.below hb)
       clear hb; go_wp2
       refine hK.out _ _ (Bk3) ?_
       clear hK K
       refine alL fun K hK => ?_
       go_wp2_with fail
       refine (rerase_any A2 C c2 0 (C : Int) f g2 b (newC (C : Int)) k3 HC3.out (newC_len C hC2) (by omega)).mono ?_
       rintro e k4 ⟨x, rfl, hx⟩
       rw [erase_all _ C (newC_len C hC2)] at hx
       have HX := hide hx.rowOk
       have Bk4 : Below wr.heap.size wr k4 := Bk3.trans (hx.bel.mono Bk3.size)
       obtain ⟨Ax, cx, rfl, -⟩ := hx.rowOk
       have HV1 := hide (HV.out.later Bk4)
       have HP1 := hide (HP.out.later Bk4)
       have HY1 := hide (HY.out.later Bk4)
       have HZ1 := hide (HZ.out.later Bk4)
       clear hx; go_wp2
       refine hK.out _ _ (Bk4) ?_
       clear hK K
       refine alL fun K hK => ?_
       go_wp2
       refine hK.out _ _ (Bk4.alloc Bk4.size _) ?_
       clear hK K
       refine laL fun K hK => ?_
       go_wp2_with (at_builtin; refine stopw ?_)
       unfold Hid
       refine wpList_pushL rfl _ _ rfl rfl rfl HV1.out HX.out (by rw [gtab_len]; omega) ?_
       intro v9 w9 hown hoth
       have HV2 : Hid (RwsC w.heap.size w w9 v9 (gtab (k + 1) F)) := by unfold Hid; rw [gtab_snoc, HFb.out]; exact hown
       have HP2 := hide (hoth _ _ _ (by decide) HP1.out)
       have HY2 := hide (hoth _ _ _ (by decide) HY1.out)
       have HZ2 := hide (hoth _ _ _ (by decide) HZ1.out)
       clear hown hoth; go_wp2
       refine hK.out _ _ ?_
       clear hK K
       refine laL fun K hK => ?_
       go_wp2
       refine hK.out _ _ ?_
       clear hK K
       refine chainL_nil ?_
       clear Bk1 Bk2 Bk3 Bk4; go_wp2
       go_roundw
       case rel => exact ⟨k + 1, by omega, by go_num, HV2.out, HP2.out, HY2.out, HZ2.out⟩
       case measure => simp [intOf]; omega
     ·obtain rfl : k = R := by omega
      obtain ⟨p0, p1, p2, lp⟩ := cells3 HP.out
      obtain ⟨z0, z1, z2, lz⟩ := cells3 HZ.out
      have hzf := HZ.out.frozen
      obtain ⟨A3, c3, e3, -, -, -, hL⟩ := HV.out.form
      rw [gtab_len] at e3
      cases e3
      have HL3 := hide hL; clear hL; go_wp2
      refine retG Tryz.results68 rfl rfl (put3 HZ.out _ _ _) ⟨Av, cv, ?_, ?_, below_put3 HV.out.bel (by omega) _ _ _⟩
      ·rw [HGE.out]
      ·rw [HGE.out]
       exact HL3.out.put3 HZ.out (by decide) (by decide) _ _ _
 ·have HGE : Hid (scrollG g C n ⟨f, g2, b⟩ = g) := by unfold Hid scrollG; rw [if_neg hp]
  have HPR : Hid (rightN ⟨f, g2, b⟩ = false) := by unfold Hid; simpa using hp
  clear hp
  go_enter Tryz.func68, Tryz.ntmps68
  go_wp2_with fail
  rw [HW0.out]
  refine (rright_any f g2 b W0).mono ?_
  rintro e W1 ⟨rfl, hb⟩
  rw [HPR.out]
  have HB1 := hide (HB0.out.trans (hb.mono HB0.out.size))
  have HP := hide (HX0.out.later hb)
  have HZ := hide (HX2.out.later hb)
  clear hb p0 p1 p2 lp a0 a1 a2 la
  obtain ⟨p0, p1, p2, lp⟩ := cells3 HP.out
  obtain ⟨z0, z1, z2, lz⟩ := cells3 HZ.out
  have hzf := HZ.out.frozen
  go_wp2
  refine retG Tryz.results68 rfl rfl (put3 HZ.out _ _ _) ⟨A, cap, ?_, ?_, below_put3 HB1.out (by omega) _ _ _⟩
  ·rw [HGE.out]
  ·rw [HGE.out]
   exact (HL.out.below HB1.out).put3 HZ.out (by decide) (by decide) _ _ _
end
end Go.Proofs.YtoddfaoifnkhlaaGreatDoor
