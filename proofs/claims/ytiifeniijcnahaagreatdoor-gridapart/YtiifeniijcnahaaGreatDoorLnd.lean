/-
  The walk of the law LineMakes.
  Contracts: may a line be (both); how far a line is used (both).
  Contracts: may a line be (the document's); how far a line is used (both).
  Plain mathematics of layer 6, what follows: what is made of a right line is right; what is done twice. No Go text, no program.
  A line that came in, opened.
-/
import Derived.Test.YtiifeniijcnahaaGreatDoorLnc
import Derived.Test.YtiifeniijcnahaaGreatDoorGen
import Derived.Test.YtiifeniijcnahaaGreatDoorLnb
import Derived.Test.YtiifeniijcnahaaGreatDoorLna
import Derived.Test.YtiifeniijcnahaaGreatDoorCeb
import Derived.Deep.Slices
namespace Go.Proofs.YtiifeniijcnahaaGreatDoor
set_option maxRecDepth 100000
open Go.ChangeShapes Go.WideShapes Go.ChangeAt Go.RowKit
set_option linter.unusedVariables false

/-- What is known of a line that came in. -/
def LineIn (w : World) (A : Option Addr) (len cap : Nat) (cs : List Cel) : Prop := Cels .i32 w A cs ∧ len ≤ cs.length ∧ len ≤ cap ∧ (A = none → cap = 0) ∧ LB cs
theorem LB_take {cs : List Cel} (h : LB cs) (n : Nat) : LB (cs.take n) := by
  intro i hi
  rw [List.length_take] at hi
  have : cAt (cs.take n) i = cAt cs i := by unfold cAt; simp [show i < n by omega]
  rw [this]
  exact h i (by omega)
end Go.Proofs.YtiifeniijcnahaaGreatDoor

namespace Go.Proofs.YtiifeniijcnahaaGreatDoor
set_option maxRecDepth 100000
open Go.ChangeShapes Go.WideShapes Go.ChangeAt Go.RowKit
set_option linter.unusedVariables false

theorem okP_r {cs : List Cel} {k : Nat} (h : rightC (cAt cs k) = false) : okP cs k = false := by unfold okP; rw [h]; rfl
theorem okP_a {cs : List Cel} {k : Nat} (h : aloneC cs k = true) : okP cs k = false := by unfold okP; rw [h]; simp
theorem okP_w {cs : List Cel} {k : Nat} (h : rightC (cAt cs k) = true) (ha : aloneC cs k = false) (hw : wAt cs k ≠ 2) : okP cs k = true := (okP_iff cs k).2 ⟨h, ha, fun q => absurd q hw⟩
theorem okP_y {cs : List Cel} {k : Nat} (h : rightC (cAt cs k) = true) (ha : aloneC cs k = false) (hw : cAt cs (k + 1) = restC (cAt cs k)) : okP cs k = true := (okP_iff cs k).2 ⟨h, ha, fun _ => hw⟩
theorem okP_n {cs : List Cel} {k : Nat} (h2 : wAt cs k = 2) (hw : cAt cs (k + 1) ≠ restC (cAt cs k)) : okP cs k = false := by
  cases q : okP cs k
  · rfl
  · exact absurd (((okP_iff cs k).1 q).2.2 h2) hw
theorem okAt_r {cs : List Cel} {k : Nat} (h : rightC (cAt cs k) = false) : okAt cs k = false := by unfold okAt; rw [h]; rfl
theorem okAt_a {cs : List Cel} {k : Nat} (h : aloneC cs k = true) : okAt cs k = false := by unfold okAt; rw [h]; simp
theorem okAt_w {cs : List Cel} {k : Nat} (h : rightC (cAt cs k) = true) (ha : aloneC cs k = false) (hw : wAt cs k ≠ 0) : okAt cs k = true := (okAt_iff cs k).2 ⟨h, ha, fun q => absurd q hw⟩
theorem okAt_y {cs : List Cel} {k : Nat} (h : rightC (cAt cs k) = true) (ha : aloneC cs k = false) (hw : (cAt cs k).p = (cAt cs (k - 1)).p) : okAt cs k = true := (okAt_iff cs k).2 ⟨h, ha, fun _ => hw⟩
theorem okAt_n {cs : List Cel} {k : Nat} (h2 : wAt cs k = 0) (hw : (cAt cs k).p ≠ (cAt cs (k - 1)).p) : okAt cs k = false := by
  cases q : okAt cs k
  · rfl
  · exact absurd (((okAt_iff cs k).1 q).2.2 h2) hw
theorem all_next {p : Nat → Bool} {k : Nat} (h : ∀ j, j < k → p j = true) (hk : p k = true) : ∀ j, j < k + 1 → p j = true := fun j hj => by
  by_cases q : j = k
  · rw [q]; exact hk
  · exact h j (by omega)
theorem wrap_small (x : Int) (h0 : -9223372036854775808 ≤ x) (h1 : x ≤ 9223372036854775807) : IntKind.i64.wrap x = x := by
  simp [IntKind.wrap, IntKind.signed, IntKind.bits]
  omega
set_option maxRecDepth 100000 in
set_option maxHeartbeats 4000000 in
theorem lright_any (A : Option Addr) (n c : Nat) (cs : List Cel) (w : World) (h : Cels .i32 w A cs) (hn : cs.length = n) (hl : n ≤ 1000000) (hlb : LB cs) (hS : Spans w) : Calls Tryz.prog 52 #[.slice A n c] w (Said (rightL cs) w) := by
  have HC := hide h
  have HN := hide hn
  have HL := hide hlb
  have HS := hide hS
  have nC := @neqCell
  clear h hn hlb hS
  go_enter Tryz.func52, Tryz.ntmps52
  go_wp2
  go_step3
  go_wp2
  go_step3
  go_wp2
  go_loopw [3, 4] (fun i _ wr => ∃ k : Nat, k ≤ n ∧ i = .int .i64 k ∧ Hid (∀ j, j < k → okP cs j = true) ∧ Below w.heap.size w wr) (fun i _ _ => n - (intOf i).toNat)
  case atStart => exact ⟨0, Nat.zero_le _, rfl, (by unfold Hid; intro j hj; omega), Below.refl _ _⟩
  case round =>
    obtain ⟨k, hk, rfl, hall, hbel⟩ := hrel
    have HB := hide hbel
    clear hbel
    by_cases hlt : k < n
    · obtain ⟨b1, o1, rfl, l1, -⟩ := HC.out.at (i := k) (by rw [HN.out]; exact hlt)
      have hcb := HL.out k (by rw [HN.out]; exact hlt)
      obtain ⟨⟨r, x, y, z, ⟨f, g, b⟩⟩, hc⟩ : ∃ q, cAt cs k = q := ⟨_, rfl⟩
      rw [hc] at hcb
      obtain ⟨-, -, -, hz⟩ := hcb
      have HZ := hide (wAt_of (by rw [HN.out]; exact hlt) hc)
      have HK := hide hc
      obtain ⟨u0, u1, u2, u3', u4', u5, u6, -⟩ := (HC.out.below HB.out).sevenC k (by rw [HN.out]; exact hlt) hc
      obtain ⟨W1, hW1⟩ : ∃ W1, wr.alloc (.cells #[.int .i32 r, .int .i32 x, .int .i32 y, .int .u8 (z : Int), .int .u8 (f : Int), .int .u8 (g : Int), .int .u8 (b : Int)] 40) = W1 := ⟨_, rfl⟩
      have HA : Hid (Whole W1 wr.heap.size 40 [.int .i32 r, .int .i32 x, .int .i32 y, .int .u8 (z : Int), .int .u8 (f : Int), .int .u8 (g : Int), .int .u8 (b : Int)]) := by unfold Hid; rw [← hW1]; exact Whole.new wr 40 [.int .i32 r, .int .i32 x, .int .i32 y, .int .u8 (z : Int), .int .u8 (f : Int), .int .u8 (g : Int), .int .u8 (b : Int)]
      have HB1 : Hid (Below w.heap.size w W1) := by unfold Hid; rw [← hW1]; exact HB.out.alloc HB.out.size _
      have HW1 := hide hW1
      obtain ⟨R, hR⟩ : ∃ R, rightC ⟨r, x, y, z, ⟨f, g, b⟩⟩ = R := ⟨_, rfl⟩
      have HR := hide hR
      clear hc hW1 hR
      go_wp2_with fail
      rw [HW1.out]
      refine (cright_any r x y z f g b hz W1 (HS.out.below HB1.out)).mono ?_
      rintro e w1 ⟨rfl, hb⟩
      rw [HR.out]
      clear u0 u1 u2 u3' u4' u5 u6
      have HB2 := hide (HB1.out.trans (hb.mono HB1.out.size))
      have HA2 := hide (HA.out.later hb)
      clear hb
      cases R
      · have HF := hide (rightL_noP cs k (by rw [HN.out]; exact hlt) (okP_r (by rw [HK.out]; exact HR.out)))
        have ek : ((k : Int) == (n : Int)) = false := by simp; omega
        go_wp2
        go_ret
        exact ⟨ret_bool HF.out.symm, HB2.out⟩
      · go_wp2_with fail
        refine (alone_any (some ⟨b1, o1, none⟩) n c k cs w1 (HC.out.below HB2.out) HN.out hlt hl).mono ?_
        rintro e w2 ⟨rfl, rfl⟩
        cases hal : aloneC cs k
        case true =>
          have HF := hide (rightL_noP cs k (by rw [HN.out]; exact hlt) (okP_a hal))
          have ek : ((k : Int) == (n : Int)) = false := by simp; omega
          clear hal
          go_wp2
          go_ret
          exact ⟨ret_bool HF.out.symm, HB2.out⟩
        case false =>
          have HRR : Hid (rightC (cAt cs k) = true) := by unfold Hid; rw [HK.out]; exact HR.out
          by_cases h2 : z = 2
          case neg =>
            have HT := hide (all_next hall.out (okP_w HRR.out hal (by rw [HZ.out]; exact h2)))
            have e2 : ((z : Int) == 2) = false := by simp; omega
            clear h2 hal hall
            obtain ⟨t0, t1, t2, t3, t4, t5, t6, -⟩ := cells7 HA2.out
            go_wp2
            refine wp_region_chainH (fun w' => Below w1.heap.size w1 w') [(false, 0), (false, 1), (false, 2), (false, 3), (true, 4), (true, 5), (true, 6), (true, 7), (true, 8), (false, 9), (false, 10), (false, 11), (false, 12), (false, 13)] (by kernel_rfl) (by kernel_rfl) (by kernel_rfl) (fun _ _ _ _ _ h => h) ?_ ?_
            · exact (Below.refl _ _).drewN 1
            refine chainH_alone (by simp only [List.getElem?_toArray, List.getElem?_cons_zero]; rfl) ?_
            intro K hK
            go_wp2
            refine hK.out _ _ ((Below.refl _ _).drewN 1) ?_
            clear hK K
            refine chainH_alone (by simp only [List.getElem?_toArray, List.getElem?_cons_zero, List.getElem?_cons_succ]; rfl) ?_
            intro K hK
            go_wp2
            refine hK.out _ _ ((Below.refl _ _).drewN 1) ?_
            clear hK K
            refine chainH_alone (by simp only [List.getElem?_toArray, List.getElem?_cons_zero, List.getElem?_cons_succ]; rfl) ?_
            intro K hK
            go_wp2
            refine hK.out _ _ ((Below.refl _ _).drewN 1) ?_
            clear hK K
            refine chainH_alone (by simp only [List.getElem?_toArray, List.getElem?_cons_zero, List.getElem?_cons_succ]; rfl) ?_
            intro K hK
            go_wp2
            refine hK.out _ _ ((Below.refl _ _).drewN 1) ?_
            clear hK K
            refine chainH_skip (by simp only [List.getElem?_toArray, List.getElem?_cons_zero, List.getElem?_cons_succ]; rfl) (by rfl) ?_
            simp only [Act.put, List.setIfInBounds_toArray, List.set_cons_zero, List.set_cons_succ]
            refine chainH_skip (by simp only [List.getElem?_toArray, List.getElem?_cons_zero, List.getElem?_cons_succ]; rfl) (by rfl) ?_
            simp only [Act.put, List.setIfInBounds_toArray, List.set_cons_zero, List.set_cons_succ]
            refine chainH_skip (by simp only [List.getElem?_toArray, List.getElem?_cons_zero, List.getElem?_cons_succ]; rfl) (by rfl) ?_
            simp only [Act.put, List.setIfInBounds_toArray, List.set_cons_zero, List.set_cons_succ]
            refine chainH_skip (by simp only [List.getElem?_toArray, List.getElem?_cons_zero, List.getElem?_cons_succ]; rfl) (by rfl) ?_
            simp only [Act.put, List.setIfInBounds_toArray, List.set_cons_zero, List.set_cons_succ]
            refine chainH_skip (by simp only [List.getElem?_toArray, List.getElem?_cons_zero, List.getElem?_cons_succ]; rfl) (by rfl) ?_
            simp only [Act.put, List.setIfInBounds_toArray, List.set_cons_zero, List.set_cons_succ]
            refine chainH_pass (by simp only [List.getElem?_toArray, List.getElem?_cons_zero, List.getElem?_cons_succ]; rfl) (by rfl) ((Below.refl _ _).drewN 1) ?_
            simp only [Act.put, List.setIfInBounds_toArray, List.set_cons_zero, List.set_cons_succ]
            refine chainH_pass (by simp only [List.getElem?_toArray, List.getElem?_cons_zero, List.getElem?_cons_succ]; rfl) (by rfl) ((Below.refl _ _).drewN 1) ?_
            simp only [Act.put, List.setIfInBounds_toArray, List.set_cons_zero, List.set_cons_succ]
            refine chainH_pass (by simp only [List.getElem?_toArray, List.getElem?_cons_zero, List.getElem?_cons_succ]; rfl) (by rfl) ((Below.refl _ _).drewN 1) ?_
            simp only [Act.put, List.setIfInBounds_toArray, List.set_cons_zero, List.set_cons_succ]
            refine chainH_alone (by simp only [List.getElem?_toArray, List.getElem?_cons_zero, List.getElem?_cons_succ]; rfl) ?_
            intro K hK
            go_wp2
            refine hK.out _ _ ((Below.refl _ _).drewN 1) ?_
            clear hK K
            refine chainH_alone (by simp only [List.getElem?_toArray, List.getElem?_cons_zero, List.getElem?_cons_succ]; rfl) ?_
            intro K hK
            go_wp2
            refine hK.out _ _ ((Below.refl _ _).drewN 1) ?_
            clear hK K
            refine chainH_nil ?_
            go_wp2
            go_roundw
            case rel => exact ⟨k + 1, by omega, by go_num, HT, HB2.out.trans (((Below.refl _ _).drewN 1).mono HB2.out.size)⟩
            case measure => simp [intOf]; omega
          case pos =>
            have e2 : ((z : Int) == 2) = true := by simp; omega
            have hz2 : wAt cs k = 2 := by rw [HZ.out]; exact h2
            have hk1 : k + 1 < n := by have q := alone_2 hz2 hal; have q2 := wAt_lt (l := cs) (i := k + 1) (by omega); rw [HN.out] at q2; exact q2
            obtain ⟨⟨r', x', y', z', ⟨f', g', b'⟩⟩, hc'⟩ : ∃ q, cAt cs (k + 1) = q := ⟨_, rfl⟩
            obtain ⟨t0, t1, t2, t3, t4, t5, t6, -⟩ := cells7 HA2.out
            have hwr : IntKind.i64.wrap ((k : Int) + 1) = (k : Int) + 1 := wrap_small _ (by omega) (by omega)
            have hw0 : (0 : Int) ≤ (k : Int) + 1 := by omega
            have hw1 : (k : Int) + 1 < (n : Int) := by omega
            have hw2 : ((k : Int) + 1).toNat = k + 1 := by omega
            by_cases he : cAt cs (k + 1) = restC (cAt cs k)
            · have HT := hide (all_next hall.out (okP_y HRR.out hal he))
              have HQ : Hid (eqC r' x' y' (z' : Int) (f' : Int) (g' : Int) (b' : Int) 0 0 0 0 (f : Int) (g : Int) (b : Int) = true) := by
                unfold Hid
                rw [hc', HK.out] at he
                have q := eqC_cel r' x' y' z' f' g' b' 0 0 0 0 f g b
                rw [show (⟨0, 0, 0, 0, ⟨f, g, b⟩⟩ : Cel) = restC ⟨r, x, y, z, ⟨f, g, b⟩⟩ from rfl, ← he] at q
                simpa using q
              have HC' := hide hc'
              clear h2 hal hall hz2 he hc'
              go_wp2
              refine wp_region_chainH (fun w' => Below w1.heap.size w1 w') [(false, 0), (false, 1), (false, 2), (false, 3), (true, 4), (true, 5), (true, 6), (true, 7), (true, 8), (false, 9), (false, 10), (false, 11), (false, 12), (false, 13)] (by kernel_rfl) (by kernel_rfl) (by kernel_rfl) (fun _ _ _ _ _ h => h) ?_ ?_
              · exact (Below.refl _ _).drewN 1
              refine chainH_alone (by simp only [List.getElem?_toArray, List.getElem?_cons_zero]; rfl) ?_
              intro K hK
              go_wp2
              refine hK.out _ _ ((Below.refl _ _).drewN 1) ?_
              clear hK K
              refine chainH_alone (by simp only [List.getElem?_toArray, List.getElem?_cons_zero, List.getElem?_cons_succ]; rfl) ?_
              intro K hK
              go_wp2
              refine hK.out _ _ ((Below.refl _ _).drewN 1) ?_
              clear hK K
              refine chainH_alone (by simp only [List.getElem?_toArray, List.getElem?_cons_zero, List.getElem?_cons_succ]; rfl) ?_
              intro K hK
              go_wp2
              refine hK.out _ _ ((Below.refl _ _).drewN 1) ?_
              clear hK K
              refine chainH_alone (by simp only [List.getElem?_toArray, List.getElem?_cons_zero, List.getElem?_cons_succ]; rfl) ?_
              intro K hK
              go_wp2
              refine hK.out _ _ ((Below.refl _ _).drewN 1) ?_
              clear hK K
              refine chainH_take (v := ?_) (by simp only [List.getElem?_toArray, List.getElem?_cons_zero, List.getElem?_cons_succ]; rfl) (by rfl) (fun w hS => ?_) ?_
              rotate_left
              · go_simp <;> with_reducible rfl
              simp only [Act.put, List.setIfInBounds_toArray, List.set_cons_zero, List.set_cons_succ]
              refine chainH_take (v := ?_) (by simp only [List.getElem?_toArray, List.getElem?_cons_zero, List.getElem?_cons_succ]; rfl) (by rfl) (fun w hS => ?_) ?_
              rotate_left
              · go_simp <;> with_reducible rfl
              simp only [Act.put, List.setIfInBounds_toArray, List.set_cons_zero, List.set_cons_succ]
              refine chainH_take (v := ?_) (by simp only [List.getElem?_toArray, List.getElem?_cons_zero, List.getElem?_cons_succ]; rfl) (by rfl) (fun w hS => ?_) ?_
              rotate_left
              · have hw6 := hwr; go_simp <;> with_reducible rfl
              simp only [Act.put, List.setIfInBounds_toArray, List.set_cons_zero, List.set_cons_succ]
              refine chainH_take (v := ?_) (by simp only [List.getElem?_toArray, List.getElem?_cons_zero, List.getElem?_cons_succ]; rfl) (by rfl) (fun w hS => ?_) ?_
              rotate_left
              · have hw7 := hw0; have hw8 := hw1; have hw9 := hw2; go_simp <;> with_reducible rfl
              simp only [Act.put, List.setIfInBounds_toArray, List.set_cons_zero, List.set_cons_succ]
              refine chainH_take (v := ?_) (by simp only [List.getElem?_toArray, List.getElem?_cons_zero, List.getElem?_cons_succ]; rfl) (by rfl) (fun w hS => ?_) ?_
              rotate_left
              · obtain ⟨v0, v1, v2, v3, v4, v5, v6, -⟩ := ((HC.out.below HB2.out).below hS).sevenC (k + 1) (by rw [HN.out]; exact hk1) HC'.out; go_simp <;> with_reducible rfl
              simp only [Act.put, List.setIfInBounds_toArray, List.set_cons_zero, List.set_cons_succ]
              refine chainH_alone (by simp only [List.getElem?_toArray, List.getElem?_cons_zero, List.getElem?_cons_succ]; rfl) ?_
              intro K hK
              go_wp2
              refine hK.out _ _ ((Below.refl _ _).drewN 1) ?_
              clear hK K
              refine chainH_alone (by simp only [List.getElem?_toArray, List.getElem?_cons_zero, List.getElem?_cons_succ]; rfl) ?_
              intro K hK
              go_wp2_with fail
              refine (rest_v r x y z f g b _).mono ?_
              rintro e j1 ⟨rfl, hb⟩
              have Bj1 : Below w1.heap.size w1 j1 := ((Below.refl _ _).drewN 1).trans hb
              have hq := HQ.out
              clear hb
              go_wp2
              refine hK.out _ _ Bj1 ?_
              clear hK K
              refine chainH_alone (by simp only [List.getElem?_toArray, List.getElem?_cons_zero, List.getElem?_cons_succ]; rfl) ?_
              intro K hK
              go_wp2
              refine hK.out _ _ Bj1 ?_
              clear hK K
              refine chainH_alone (by simp only [List.getElem?_toArray, List.getElem?_cons_zero, List.getElem?_cons_succ]; rfl) ?_
              intro K hK
              go_wp2
              refine hK.out _ _ Bj1 ?_
              clear hK K
              refine chainH_alone (by simp only [List.getElem?_toArray, List.getElem?_cons_zero, List.getElem?_cons_succ]; rfl) ?_
              intro K hK
              go_wp2
              refine hK.out _ _ Bj1 ?_
              clear hK K
              refine chainH_nil ?_
              go_wp2
              go_roundw
              case rel => exact ⟨k + 1, by omega, by go_num, HT, HB2.out.trans (Bj1.mono HB2.out.size)⟩
              case measure => simp [intOf]; omega
            · have HF := hide (rightL_noP cs k (by rw [HN.out]; exact hlt) (okP_n hz2 he))
              have ek : ((k : Int) == (n : Int)) = false := by simp; omega
              have HQ : Hid (eqC r' x' y' (z' : Int) (f' : Int) (g' : Int) (b' : Int) 0 0 0 0 (f : Int) (g : Int) (b : Int) = false) := by
                unfold Hid
                rw [hc', HK.out] at he
                have q := eqC_cel r' x' y' z' f' g' b' 0 0 0 0 f g b
                rw [show (⟨0, 0, 0, 0, ⟨f, g, b⟩⟩ : Cel) = restC ⟨r, x, y, z, ⟨f, g, b⟩⟩ from rfl, decide_eq_false he] at q
                exact q
              have HC' := hide hc'
              clear h2 hal hall hz2 he hc'
              go_wp2
              refine wp_region_chainH (fun w' => Below w1.heap.size w1 w') [(false, 0), (false, 1), (false, 2), (false, 3), (true, 4), (true, 5), (true, 6), (true, 7), (true, 8), (false, 9), (false, 10), (false, 11), (false, 12), (false, 13)] (by kernel_rfl) (by kernel_rfl) (by kernel_rfl) (fun _ _ _ _ _ h => h) ?_ ?_
              · exact (Below.refl _ _).drewN 1
              refine chainH_alone (by simp only [List.getElem?_toArray, List.getElem?_cons_zero]; rfl) ?_
              intro K hK
              go_wp2
              refine hK.out _ _ ((Below.refl _ _).drewN 1) ?_
              clear hK K
              refine chainH_alone (by simp only [List.getElem?_toArray, List.getElem?_cons_zero, List.getElem?_cons_succ]; rfl) ?_
              intro K hK
              go_wp2
              refine hK.out _ _ ((Below.refl _ _).drewN 1) ?_
              clear hK K
              refine chainH_alone (by simp only [List.getElem?_toArray, List.getElem?_cons_zero, List.getElem?_cons_succ]; rfl) ?_
              intro K hK
              go_wp2
              refine hK.out _ _ ((Below.refl _ _).drewN 1) ?_
              clear hK K
              refine chainH_alone (by simp only [List.getElem?_toArray, List.getElem?_cons_zero, List.getElem?_cons_succ]; rfl) ?_
              intro K hK
              go_wp2
              refine hK.out _ _ ((Below.refl _ _).drewN 1) ?_
              clear hK K
              refine chainH_take (v := ?_) (by simp only [List.getElem?_toArray, List.getElem?_cons_zero, List.getElem?_cons_succ]; rfl) (by rfl) (fun w hS => ?_) ?_
              rotate_left
              · go_simp <;> with_reducible rfl
              simp only [Act.put, List.setIfInBounds_toArray, List.set_cons_zero, List.set_cons_succ]
              refine chainH_take (v := ?_) (by simp only [List.getElem?_toArray, List.getElem?_cons_zero, List.getElem?_cons_succ]; rfl) (by rfl) (fun w hS => ?_) ?_
              rotate_left
              · go_simp <;> with_reducible rfl
              simp only [Act.put, List.setIfInBounds_toArray, List.set_cons_zero, List.set_cons_succ]
              refine chainH_take (v := ?_) (by simp only [List.getElem?_toArray, List.getElem?_cons_zero, List.getElem?_cons_succ]; rfl) (by rfl) (fun w hS => ?_) ?_
              rotate_left
              · have hw6 := hwr; go_simp <;> with_reducible rfl
              simp only [Act.put, List.setIfInBounds_toArray, List.set_cons_zero, List.set_cons_succ]
              refine chainH_take (v := ?_) (by simp only [List.getElem?_toArray, List.getElem?_cons_zero, List.getElem?_cons_succ]; rfl) (by rfl) (fun w hS => ?_) ?_
              rotate_left
              · have hw7 := hw0; have hw8 := hw1; have hw9 := hw2; go_simp <;> with_reducible rfl
              simp only [Act.put, List.setIfInBounds_toArray, List.set_cons_zero, List.set_cons_succ]
              refine chainH_take (v := ?_) (by simp only [List.getElem?_toArray, List.getElem?_cons_zero, List.getElem?_cons_succ]; rfl) (by rfl) (fun w hS => ?_) ?_
              rotate_left
              · obtain ⟨v0, v1, v2, v3, v4, v5, v6, -⟩ := ((HC.out.below HB2.out).below hS).sevenC (k + 1) (by rw [HN.out]; exact hk1) HC'.out; go_simp <;> with_reducible rfl
              simp only [Act.put, List.setIfInBounds_toArray, List.set_cons_zero, List.set_cons_succ]
              refine chainH_alone (by simp only [List.getElem?_toArray, List.getElem?_cons_zero, List.getElem?_cons_succ]; rfl) ?_
              intro K hK
              go_wp2
              refine hK.out _ _ ((Below.refl _ _).drewN 1) ?_
              clear hK K
              refine chainH_alone (by simp only [List.getElem?_toArray, List.getElem?_cons_zero, List.getElem?_cons_succ]; rfl) ?_
              intro K hK
              go_wp2_with fail
              refine (rest_v r x y z f g b _).mono ?_
              rintro e j1 ⟨rfl, hb⟩
              have Bj1 : Below w1.heap.size w1 j1 := ((Below.refl _ _).drewN 1).trans hb
              have hq := HQ.out
              clear hb
              go_wp2
              refine hK.out _ _ Bj1 ?_
              clear hK K
              refine chainH_alone (by simp only [List.getElem?_toArray, List.getElem?_cons_zero, List.getElem?_cons_succ]; rfl) ?_
              intro K hK
              go_wp2
              refine hK.out _ _ Bj1 ?_
              clear hK K
              refine chainH_alone (by simp only [List.getElem?_toArray, List.getElem?_cons_zero, List.getElem?_cons_succ]; rfl) ?_
              intro K hK
              go_wp2
              refine hK.out _ _ Bj1 ?_
              clear hK K
              refine chainH_alone (by simp only [List.getElem?_toArray, List.getElem?_cons_zero, List.getElem?_cons_succ]; rfl) ?_
              intro K hK
              go_wp2
              refine hK.out _ _ Bj1 ?_
              clear hK K
              refine chainH_nil ?_
              go_wp2
              go_ret
              exact ⟨ret_bool HF.out.symm, HB2.out.trans (Bj1.mono HB2.out.size)⟩
    · have HF : Hid (rightL cs = true) := by unfold Hid; exact rightL_yesP cs (fun j hj => hall.out j (by rw [HN.out] at hj; omega))
      have ek : ((k : Int) == (n : Int)) = true := by simp; omega
      clear hall
      go_wp2
      go_ret
      exact ⟨ret_bool HF.out.symm, HB.out⟩
end Go.Proofs.YtiifeniijcnahaaGreatDoor

namespace Go.Proofs.YtiifeniijcnahaaGreatDoor
set_option maxRecDepth 100000
open Go.ChangeShapes Go.WideShapes Go.ChangeAt Go.RowKit
set_option linter.unusedVariables false

set_option maxRecDepth 100000 in
set_option maxHeartbeats 2000000 in
theorem rlright_any (A : Option Addr) (n c : Nat) (cs : List Cel) (w : World) (h : Cels .i64 w A cs) (hn : cs.length = n) (hl : n ≤ 1000000) (hlb : LB cs) : Calls Tryz.prog 53 #[.slice A n c] w (Said (rightL cs) w) := by
  have HC := hide h
  have HN := hide hn
  have HL := hide hlb
  have nP := @neqP
  clear h hn hlb
  go_enter Tryz.func53, Tryz.ntmps53
  go_wp2
  go_loopw [3] (fun i wr => ∃ k : Nat, k ≤ n ∧ i = .int .i64 k ∧ Hid (∀ j, j < k → okAt cs j = true) ∧ Below w.heap.size w wr) (fun i _ => n - (intOf i).toNat)
  case atStart => exact ⟨0, Nat.zero_le _, rfl, (by unfold Hid; intro j hj; omega), Below.refl _ _⟩
  case round =>
    obtain ⟨k, hk, rfl, hall, hbel⟩ := hrel
    have HB := hide hbel
    clear hbel
    by_cases hlt : k < n
    · obtain ⟨b1, o1, rfl, l1, -⟩ := HC.out.at (i := k) (by rw [HN.out]; exact hlt)
      have hcb := HL.out k (by rw [HN.out]; exact hlt)
      obtain ⟨⟨r, x, y, z, ⟨f, g, b⟩⟩, hc⟩ : ∃ q, cAt cs k = q := ⟨_, rfl⟩
      rw [hc] at hcb
      obtain ⟨-, -, -, hz⟩ := hcb
      have HZ := hide (wAt_of (by rw [HN.out]; exact hlt) hc)
      have HK := hide hc
      obtain ⟨t0, t1, t2, t3, t4, t5, t6, -⟩ := (HC.out.below HB.out).sevenC k (by rw [HN.out]; exact hlt) hc
      obtain ⟨R, hR⟩ : ∃ R, rightC ⟨r, x, y, z, ⟨f, g, b⟩⟩ = R := ⟨_, rfl⟩
      have HR := hide hR
      clear hc hR
      go_wp2_with fail
      refine (rcright_any r x y z f g b hz wr).mono ?_
      rintro e w1 ⟨rfl, hb⟩
      rw [HR.out]
      clear t0 t1 t2 t3 t4 t5 t6
      have HB2 := hide (HB.out.trans (hb.mono HB.out.size))
      clear hb
      cases R
      · have HF := hide (rightL_no cs k (by rw [HN.out]; exact hlt) (okAt_r (by rw [HK.out]; exact HR.out)))
        clear hall
        go_wp2
        go_ret
        exact ⟨ret_bool HF.out.symm, HB2.out⟩
      · go_wp2_with fail
        refine (ralone_any (some ⟨b1, o1, none⟩) n c k cs w1 (HC.out.below HB2.out) HN.out hlt hl).mono ?_
        rintro e w2 ⟨rfl, rfl⟩
        cases hal : aloneC cs k
        case true =>
          have HF := hide (rightL_no cs k (by rw [HN.out]; exact hlt) (okAt_a hal))
          clear hal hall
          go_wp2
          go_ret
          exact ⟨ret_bool HF.out.symm, HB2.out⟩
        case false =>
          have HRR : Hid (rightC (cAt cs k) = true) := by unfold Hid; rw [HK.out]; exact HR.out
          by_cases h2 : z = 0
          case neg =>
            have HT := hide (all_next hall.out (okAt_w HRR.out hal (by rw [HZ.out]; exact h2)))
            have e2 : ((z : Int) == 0) = false := by simp; omega
            obtain ⟨t0, t1, t2, t3, t4, t5, t6, -⟩ := (HC.out.below HB2.out).sevenC k (by rw [HN.out]; exact hlt) HK.out
            clear h2 hal hall
            go_wp2
            go_quiet (fail)
            go_wp2
            go_roundw
            case rel => exact ⟨k + 1, by omega, by go_num, HT, HB2.out.drewN _⟩
            case measure => simp [intOf]; omega
          case pos =>
            have e2 : ((z : Int) == 0) = true := by simp; omega
            have hz2 : wAt cs k = 0 := by rw [HZ.out]; exact h2
            obtain ⟨j, rfl⟩ : ∃ j, k = j + 1 := ⟨k - 1, by have := (alone_0 hz2 hal).1; omega⟩
            obtain ⟨⟨r', x', y', z', ⟨f', g', b'⟩⟩, hc'⟩ : ∃ q, cAt cs j = q := ⟨_, rfl⟩
            obtain ⟨t0, t1, t2, t3, t4, t5, t6, -⟩ := (HC.out.below HB2.out).sevenC (j + 1) (by rw [HN.out]; exact hlt) HK.out
            obtain ⟨v0, v1, v2, v3, v4, v5, v6, -⟩ := (HC.out.below HB2.out).sevenC j (by rw [HN.out]; omega) hc'
            by_cases he : (cAt cs (j + 1)).p = (cAt cs (j + 1 - 1)).p
            · have HT := hide (all_next hall.out (okAt_y HRR.out hal he))
              have hq : eqP (f : Int) (g : Int) (b : Int) (f' : Int) (g' : Int) (b' : Int) = true := by
                rw [show j + 1 - 1 = j by omega, hc', HK.out] at he
                rw [eqP_pen]
                exact decide_eq_true he
              clear h2 hal hall hz2 he hc'
              go_wp2
              go_quiet (fail)
              go_wp2
              go_roundw
              case rel => exact ⟨j + 1 + 1, by omega, by go_num, HT, HB2.out.drewN _⟩
              case measure => simp [intOf]; omega
            · have HF := hide (rightL_no cs (j + 1) (by rw [HN.out]; exact hlt) (okAt_n hz2 he))
              have hq : eqP (f : Int) (g : Int) (b : Int) (f' : Int) (g' : Int) (b' : Int) = false := by
                rw [show j + 1 - 1 = j by omega, hc', HK.out] at he
                rw [eqP_pen]
                exact decide_eq_false he
              clear h2 hal hall hz2 he hc'
              go_wp2
              go_quiet (fail)
              go_wp2
              go_ret
              exact ⟨ret_bool HF.out.symm, HB2.out.drewN _⟩
    · have HF : Hid (rightL cs = true) := by unfold Hid; exact (rightL_iff cs).2 (fun j hj => hall.out j (by rw [HN.out] at hj; omega))
      clear hall
      go_wp2
      go_ret
      exact ⟨ret_bool HF.out.symm, HB.out⟩
theorem used_eq {cs : List Cel} {k : Nat} (h : cAt cs k = blankC zeroP) : usedTo cs (k + 1) = usedTo cs k := by unfold usedTo; rw [if_pos h]; cases k <;> rfl
theorem used_ne {cs : List Cel} {k : Nat} (h : cAt cs k ≠ blankC zeroP) : usedTo cs (k + 1) = k + 1 := by rw [usedTo, if_neg h]
set_option maxRecDepth 100000 in
set_option maxHeartbeats 2000000 in
theorem used_any (A : Option Addr) (n c : Nat) (cs : List Cel) (w : World) (h : Cels .i32 w A cs) (hn : cs.length = n) (hl : n ≤ 1000000) : Calls Tryz.prog 35 #[.slice A n c] w (Num .i64 (usedC cs : Int) w) := by
  have HC := hide h
  have HN := hide hn
  have eC := @eqlCell
  clear h hn
  go_enter Tryz.func35, Tryz.ntmps35
  go_wp2_with fail
  refine (blank_v 0 0 0 w).mono ?_
  rintro e w1 ⟨rfl, hb⟩
  obtain ⟨W1, hW1⟩ : ∃ W1, w1.alloc (.cells #[.int .i32 32, .int .i32 0, .int .i32 0, .int .u8 (1 : Int), .int .u8 (0 : Int), .int .u8 (0 : Int), .int .u8 (0 : Int)] 40) = W1 := ⟨_, rfl⟩
  have HA : Hid (Whole W1 w1.heap.size 40 [.int .i32 32, .int .i32 0, .int .i32 0, .int .u8 (1 : Int), .int .u8 (0 : Int), .int .u8 (0 : Int), .int .u8 (0 : Int)]) := by unfold Hid; rw [← hW1]; exact Whole.new w1 40 [.int .i32 32, .int .i32 0, .int .i32 0, .int .u8 (1 : Int), .int .u8 (0 : Int), .int .u8 (0 : Int), .int .u8 (0 : Int)]
  have HB1 : Hid (Below w.heap.size w W1) := by unfold Hid; rw [← hW1]; exact hb.alloc hb.size _
  have HW1 := hide hW1
  clear hb hW1
  go_wp2
  rw [HW1.out]
  go_loopw [3] (fun i wr => ∃ k : Nat, k ≤ n ∧ i = .int .i64 k ∧ Hid (usedC cs = usedTo cs k) ∧ Below W1.heap.size W1 wr) (fun i _ => (intOf i).toNat)
  case atStart => exact ⟨n, Nat.le_refl _, rfl, (by unfold Hid usedC; rw [HN.out]), Below.refl _ _⟩
  case round =>
    obtain ⟨k, hk, rfl, hu, hbel⟩ := hrel
    have HB := hide hbel
    have HBB := hide (HB1.out.trans (hbel.mono HB1.out.size))
    clear hbel
    cases k with
    | zero =>
      have HU : Hid ((usedC cs : Int) = 0) := by unfold Hid; rw [hu.out]; rfl
      clear hu
      go_wp2
      go_quiet (fail)
      go_wp2
      go_ret
      exact ⟨ret_int HU.out.symm, HBB.out.drewN _⟩
    | succ k =>
      obtain ⟨b1, o1, rfl, l1, -⟩ := HC.out.at (i := k) (by rw [HN.out]; omega)
      obtain ⟨⟨r, x, y, z, ⟨f, g, b⟩⟩, hc⟩ : ∃ q, cAt cs k = q := ⟨_, rfl⟩
      obtain ⟨v0, v1, v2, v3, v4, v5, v6, -⟩ := (HC.out.below HBB.out).sevenC k (by rw [HN.out]; omega) hc
      obtain ⟨t0, t1, t2, t3, t4, t5, t6, -⟩ := cells7 (HA.out.later HB.out)
      by_cases he : cAt cs k = blankC zeroP
      · have HU : Hid (usedC cs = usedTo cs k) := by unfold Hid; rw [hu.out, used_eq he]
        have hq : eqC r x y (z : Int) (f : Int) (g : Int) (b : Int) 32 0 0 1 0 0 0 = true := by
          have q := eqC_cel r x y z f g b 32 0 0 1 0 0 0
          rw [hc] at he
          rw [show (⟨32, 0, 0, 1, ⟨0, 0, 0⟩⟩ : Cel) = blankC zeroP from rfl, he] at q
          simpa using q
        clear hc he hu
        go_wp2
        go_quiet (fail)
        go_wp2
        go_roundw
        case rel => exact ⟨k, by omega, by go_num, HU, HB.out.drewN _⟩
        case measure => simp [intOf]
      · have HU : Hid ((usedC cs : Int) = (k : Int) + 1) := by unfold Hid; rw [hu.out, used_ne he]; omega
        have hq : eqC r x y (z : Int) (f : Int) (g : Int) (b : Int) 32 0 0 1 0 0 0 = false := by
          have q := eqC_cel r x y z f g b 32 0 0 1 0 0 0
          rw [hc] at he
          rw [show (⟨32, 0, 0, 1, ⟨0, 0, 0⟩⟩ : Cel) = blankC zeroP from rfl, decide_eq_false he] at q
          simpa using q
        clear hc he hu
        go_wp2
        go_quiet (fail)
        go_wp2
        go_ret
        exact ⟨ret_int HU.out.symm, HBB.out.drewN _⟩
end Go.Proofs.YtiifeniijcnahaaGreatDoor

namespace Go.Proofs.YtiifeniijcnahaaGreatDoor
set_option maxRecDepth 100000
set_option linter.unusedVariables false

theorem alone_congr {l l' : List Cel} (h : ∀ i, wAt l i = wAt l' i) (i : Nat) : aloneC l i = aloneC l' i := by unfold aloneC; rw [h i, h (i + 1), h (i - 1)]
theorem alone_1 {l : List Cel} {i : Nat} (h : wAt l i = 1) : aloneC l i = false := by unfold aloneC; rw [if_neg (by omega), if_neg (by omega)]
theorem alone_of2 {l : List Cel} {i : Nat} (h : wAt l i = 2) (h1 : wAt l (i + 1) = 0) : aloneC l i = false := by unfold aloneC; rw [if_pos h]; simp [h1]
theorem alone_of0 {l : List Cel} {i : Nat} (h : wAt l i = 0) (h0 : i ≠ 0) (h1 : wAt l (i - 1) = 2) : aloneC l i = false := by unfold aloneC; rw [if_neg (by omega), if_pos h]; simp [h0, h1]
theorem mend_wAt (l : List Cel) (i : Nat) (hi : i < l.length) : wAt (mendC l) i = if aloneC l i = true then 1 else wAt l i := by
  rw [wAt_in _ _ (by rw [mend_len]; exact hi), mend_cAt l i hi, wAt_in l i hi]
  unfold mendAt
  split <;> rfl
theorem mend_wAt_out (l : List Cel) (i : Nat) (hi : l.length ≤ i) : wAt (mendC l) i = 9 := wAt_out _ _ (by rw [mend_len]; exact hi)
theorem mend_w2 {l : List Cel} {i : Nat} (h : wAt (mendC l) i = 2) : wAt l i = 2 ∧ aloneC l i = false := by
  have hi : i < l.length := by have := wAt_lt (l := mendC l) (i := i) (by omega); rwa [mend_len] at this
  rw [mend_wAt l i hi] at h
  cases q : aloneC l i
  · rw [q] at h; simp at h; exact ⟨h, rfl⟩
  · rw [q] at h; simp at h
theorem mend_w0 {l : List Cel} {i : Nat} (h : wAt (mendC l) i = 0) : wAt l i = 0 ∧ aloneC l i = false := by
  have hi : i < l.length := by have := wAt_lt (l := mendC l) (i := i) (by omega); rwa [mend_len] at this
  rw [mend_wAt l i hi] at h
  cases q : aloneC l i
  · rw [q] at h; simp at h; exact ⟨h, rfl⟩
  · rw [q] at h; simp at h
/-- What is mended has no half alone. -/
theorem mend_none (l : List Cel) (i : Nat) : aloneC (mendC l) i = false := by
  by_cases h2 : wAt (mendC l) i = 2
  · obtain ⟨h3, h4⟩ := mend_w2 h2
    have h5 := alone_2 h3 h4
    have hi1 : i + 1 < l.length := wAt_lt (by omega)
    refine alone_of2 h2 ?_
    rw [mend_wAt l _ hi1, alone_of0 h5 (by omega) h3]
    simp [h5]
  · by_cases h0 : wAt (mendC l) i = 0
    · obtain ⟨h3, h4⟩ := mend_w0 h0
      obtain ⟨h5, h6⟩ := alone_0 h3 h4
      have hi1 : i - 1 < l.length := wAt_lt (by omega)
      refine alone_of0 h0 h5 ?_
      rw [mend_wAt l _ hi1, alone_of2 h6 (by rw [show i - 1 + 1 = i by omega]; exact h3)]
      simp [h6]
    · unfold aloneC; rw [if_neg h2, if_neg h0]
theorem mend_stays {l : List Cel} (h : ∀ i, i < l.length → aloneC l i = false) : mendC l = l := by
  unfold mendC
  conv => rhs; rw [← tab_self l]
  exact tab_eq fun i hi => mendAt_no l i (h i hi)
theorem mend_twice (l : List Cel) : mendC (mendC l) = mendC l := mend_stays fun i _ => mend_none l i
theorem mend_right {l : List Cel} (h : rightL l = true) : mendC l = l := mend_stays fun i hi => ((okAt_iff l i).1 ((rightL_iff l).1 h i hi)).2.1
/-- All cells right, halves beside each other of one pen. -/
def fine (l : List Cel) : Prop := ∀ i, i < l.length → rightC (cAt l i) = true ∧ (wAt l i = 0 → i ≠ 0 → wAt l (i - 1) = 2 → (cAt l i).p = (cAt l (i - 1)).p)
theorem right_of_fine {l : List Cel} (h : fine l) : rightL (mendC l) = true := by
  rw [rightL_iff]
  intro i hi
  rw [mend_len] at hi
  rw [okAt_iff]
  refine ⟨?_, mend_none l i, fun h0 => ?_⟩
  · rw [mend_cAt l i hi]
    unfold mendAt
    split
    · exact right_blank (right_pen (h i hi).1)
    · exact (h i hi).1
  · obtain ⟨h3, h4⟩ := mend_w0 h0
    obtain ⟨h5, h6⟩ := alone_0 h3 h4
    have h7 := alone_of2 h6 (by rw [show i - 1 + 1 = i by omega]; exact h3)
    rw [mend_cAt l i hi, mend_cAt l (i - 1) (by omega), mendAt_no l i h4, mendAt_no l (i - 1) h7]
    exact (h i hi).2 h3 h5 h6
theorem fine_of_right {l : List Cel} (h : rightL l = true) {i : Nat} (hi : i < l.length) : rightC (cAt l i) = true ∧ (wAt l i = 0 → (cAt l i).p = (cAt l (i - 1)).p) := by
  obtain ⟨h1, _, h3⟩ := (okAt_iff l i).1 ((rightL_iff l).1 h i hi)
  exact ⟨h1, h3⟩
theorem tab_wAt (n : Nat) (f : Nat → Cel) (i : Nat) (h : i < n) : wAt (tab n f) i = (f i).w := by rw [wAt_in _ _ (by rw [tab_len]; exact h), tab_cAt n f i h]
theorem right_put {l : List Cel} {a : Int} {c : Cel} (h : rightL l = true) : rightL (putC l a c) = true := by
  unfold putC
  split
  · rename_i hok
    unfold putOk at hok
    rw [decide_eq_true_iff] at hok
    obtain ⟨hc, hw, ha, hl⟩ := hok
    have hw2 : c.w = 1 ∨ c.w = 2 := by rcases right_w hc with q | q | q; exact absurd q hw; exact .inl q; exact .inr q
    refine right_of_fine ?_
    unfold putTab
    intro i hi
    rw [tab_len] at hi
    rw [tab_cAt _ _ _ hi, tab_wAt _ _ _ hi]
    refine ⟨?_, fun h0 hi0 h2 => ?_⟩
    · split
      · exact hc
      · split
        · exact right_rest hc
        · exact (fine_of_right h hi).1
    · have hi1 : i - 1 < l.length := by omega
      rw [tab_wAt _ _ _ hi1] at h2
      rw [tab_cAt _ _ _ hi1]
      generalize a.toNat = k at *
      by_cases e1 : i = k
      · rw [if_pos e1] at h0; exact absurd h0 hw
      · rw [if_neg e1] at h0 ⊢
        by_cases e2 : i = k + 1 ∧ c.w = 2
        · rw [if_pos e2, if_pos (by omega)]; rfl
        · rw [if_neg e2] at h0 ⊢
          by_cases e3 : i - 1 = k
          · rw [if_pos e3] at h2; omega
          · rw [if_neg e3] at h2 ⊢
            by_cases e4 : i - 1 = k + 1 ∧ c.w = 2
            · rw [if_pos e4] at h2; cases h2
            · rw [if_neg e4]
              refine (fine_of_right h hi).2 ?_
              rw [wAt_in l i hi]; exact h0
  · exact h
theorem right_erase {l : List Cel} {x y : Int} {p : Pn} (h : rightL l = true) (hp : rightN p = true) : rightL (eraseC l x y p) = true := by
  refine right_of_fine ?_
  unfold eraseTab
  intro i hi
  rw [tab_len] at hi
  rw [tab_cAt _ _ _ hi, tab_wAt _ _ _ hi]
  refine ⟨?_, fun h0 hi0 h2 => ?_⟩
  · split
    · exact right_blank hp
    · exact (fine_of_right h hi).1
  · have hi1 : i - 1 < l.length := by omega
    rw [tab_wAt _ _ _ hi1] at h2
    rw [tab_cAt _ _ _ hi1]
    split at h0
    · cases h0
    · rename_i e1
      split at h2
      · cases h2
      · rename_i e2
        rw [if_neg e1, if_neg e2]
        refine (fine_of_right h hi).2 ?_
        rw [wAt_in l i hi]; exact h0
theorem right_fit {l : List Cel} {x : Int} (h : rightL l = true) : rightL (fitC l x) = true := by
  refine right_of_fine ?_
  unfold fitTab
  intro i hi
  rw [tab_len] at hi
  rw [tab_cAt _ _ _ hi, tab_wAt _ _ _ hi]
  refine ⟨?_, fun h0 hi0 h2 => ?_⟩
  · split
    · rename_i q; exact (fine_of_right h q).1
    · exact right_blank (by decide)
  · have hi1 : i - 1 < lenN x := by omega
    rw [tab_wAt _ _ _ hi1] at h2
    rw [tab_cAt _ _ _ hi1]
    split at h0
    · rename_i e1
      rw [if_pos e1, if_pos (by omega)]
      refine (fine_of_right h e1).2 ?_
      rw [wAt_in l i e1]; exact h0
    · cases h0
theorem mark_same (c : Cel) (r : Int) : (markC c r).1.w = c.w ∧ (markC c r).1.p = c.p := by
  unfold markC
  split
  · split
    · exact ⟨rfl, rfl⟩
    · split
      · exact ⟨rfl, rfl⟩
      · exact ⟨rfl, rfl⟩
  · exact ⟨rfl, rfl⟩
theorem right_alike {l l' : List Cel} (hl : l'.length = l.length) (h : ∀ i, i < l.length → (cAt l' i).w = (cAt l i).w ∧ (cAt l' i).p = (cAt l i).p ∧ (rightC (cAt l i) = true → rightC (cAt l' i) = true)) (hr : rightL l = true) : rightL l' = true := by
  have hw : ∀ i, wAt l' i = wAt l i := by
    intro i
    by_cases hi : i < l.length
    · rw [wAt_in l' i (by omega), wAt_in l i hi]; exact (h i hi).1
    · rw [wAt_out l' i (by omega), wAt_out l i (by omega)]
  rw [rightL_iff]
  intro i hi
  rw [hl] at hi
  obtain ⟨h1, h2, h3⟩ := (okAt_iff l i).1 ((rightL_iff l).1 hr i hi)
  rw [okAt_iff]
  refine ⟨(h i hi).2.2 h1, by rw [alone_congr hw]; exact h2, fun h0 => ?_⟩
  rw [hw] at h0
  obtain ⟨h5, h6⟩ := alone_0 h0 h2
  rw [(h i hi).2.1, (h (i - 1) (by omega)).2.1]
  exact h3 h0
theorem right_lmark {l : List Cel} {a r : Int} (h : rightL l = true) : rightL (lmarkC l a r).1 = true := by
  unfold lmarkC
  split
  · simp only
    refine right_alike (by simp) (fun i hi => ?_) h
    rw [set_tab, tab_cAt _ _ _ hi]
    split
    · rename_i e
      rw [e]
      exact ⟨(mark_same _ _).1, (mark_same _ _).2, right_mark⟩
    · exact ⟨rfl, rfl, fun q => q⟩
  · exact h

/-! ### twice -/
theorem fit_twice (l : List Cel) (x : Int) : fitC (fitC l x) x = fitC l x := by
  have e : fitTab (fitC l x) x = fitC l x := by
    have hl : (fitC l x).length = lenN x := by unfold fitC; rw [mend_len]; exact tab_len _ _
    unfold fitTab
    rw [← hl]
    conv => rhs; rw [← tab_self (fitC l x)]
    exact tab_eq fun i hi => by rw [if_pos hi]
  unfold fitC at e ⊢
  rw [e, mend_twice]
theorem erase_twice (l : List Cel) (x y : Int) (p : Pn) : eraseC (eraseC l x y p) x y p = eraseC l x y p := by
  have e : eraseTab (eraseC l x y p) x y p = eraseC l x y p := by
    have hl : (eraseTab l x y p).length = l.length := tab_len _ _
    have hl2 : (eraseC l x y p).length = l.length := by unfold eraseC; rw [mend_len]; exact hl
    conv => lhs; unfold eraseTab
    conv => rhs; rw [← tab_self (eraseC l x y p)]
    refine tab_eq fun i hi => ?_
    rw [hl2] at hi
    by_cases q : x ≤ (i : Int) ∧ (i : Int) < y
    · rw [if_pos q]
      have e1 : cAt (eraseTab l x y p) i = blankC p := by unfold eraseTab; rw [tab_cAt _ _ _ hi, if_pos q]
      have e2 : wAt (eraseTab l x y p) i = 1 := by rw [wAt_in _ _ (by rw [hl]; exact hi), e1]; rfl
      unfold eraseC
      rw [mend_cAt _ _ (by rw [hl]; exact hi), mendAt_no _ _ (alone_1 e2), e1]
    · rw [if_neg q]
  unfold eraseC at e ⊢
  rw [e, mend_twice]
theorem put_is {l : List Cel} {a : Int} {c : Cel} (h : putOk l a c = true) : putC l a c = mendC (putTab l a.toNat c) := by unfold putC; rw [if_pos h]
theorem put_twice (l : List Cel) (a : Int) (c d : Cel) (hc : c.w = 1) (hd : d.w = 1) (h1 : putOk l a c = true) (h2 : putOk (putC l a c) a d = true) (h3 : putOk l a d = true) : putC (putC l a c) a d = putC l a d := by
  have e1 : putC l a c = mendC (putTab l a.toNat c) := by unfold putC; rw [if_pos h1]
  have e2 : putC (putC l a c) a d = mendC (putTab (putC l a c) a.toNat d) := put_is h2
  have e3 : putC l a d = mendC (putTab l a.toNat d) := by unfold putC; rw [if_pos h3]
  rw [e2, e3, e1]
  generalize a.toNat = k
  have T : ∀ (m : List Cel) (q : Cel), q.w = 1 → ∀ i, i < m.length → cAt (putTab m k q) i = if i = k then q else cAt m i := by
    intro m q hq i hi
    unfold putTab
    rw [tab_cAt _ _ _ hi]
    by_cases e : i = k
    · rw [if_pos e, if_pos e]
    · rw [if_neg e, if_neg e, if_neg (by omega)]
  have TL : ∀ (m : List Cel) (q : Cel), (putTab m k q).length = m.length := fun m q => tab_len _ _
  have W12 : ∀ i, wAt (putTab l k c) i = wAt (putTab l k d) i := by
    intro i
    by_cases hi : i < l.length
    · rw [wAt_in _ _ (by rw [TL]; exact hi), wAt_in _ _ (by rw [TL]; exact hi), T l c hc i hi, T l d hd i hi]
      split
      · rw [hc, hd]
      · rfl
    · rw [wAt_out _ _ (by rw [TL]; omega), wAt_out _ _ (by rw [TL]; omega)]
  have hml : (mendC (putTab l k c)).length = l.length := by rw [mend_len, TL]
  have WA : ∀ i, wAt (putTab (mendC (putTab l k c)) k d) i = wAt (mendC (putTab l k c)) i := by
    intro i
    by_cases hi : i < l.length
    · rw [wAt_in _ _ (by rw [TL, hml]; exact hi), T _ d hd i (by rw [hml]; exact hi)]
      split
      · rename_i e
        have hk1 : wAt (putTab l k c) i = 1 := by rw [wAt_in _ _ (by rw [TL]; exact hi), T l c hc i hi, if_pos e, hc]
        rw [mend_wAt _ _ (by rw [TL]; exact hi), alone_1 hk1, hk1, hd]; rfl
      · rw [wAt_in _ _ (by rw [hml]; exact hi)]
    · rw [wAt_out _ _ (by rw [TL, hml]; omega), wAt_out _ _ (by rw [hml]; omega)]
  have NA : ∀ i, aloneC (putTab (mendC (putTab l k c)) k d) i = false := fun i => by rw [alone_congr WA]; exact mend_none _ i
  rw [mend_stays fun i _ => NA i]
  unfold mendC
  refine tab_is (by rw [TL, tab_len, TL, TL]) fun i hi => ?_
  rw [TL] at hi
  have hm2 : (tab (putTab l k c).length (mendAt (putTab l k c))).length = l.length := by rw [tab_len, TL]
  rw [T _ d hd i (by rw [hm2]; exact hi)]
  by_cases e : i = k
  · rw [if_pos e]
    have hk1 : wAt (putTab l k d) i = 1 := by rw [wAt_in _ _ (by rw [TL]; exact hi), T l d hd i hi, if_pos e, hd]
    rw [mendAt_no _ _ (alone_1 hk1), T l d hd i hi, if_pos e]
  · rw [if_neg e, tab_cAt _ _ _ (by rw [TL]; exact hi)]
    unfold mendAt
    rw [alone_congr W12, T l c hc i hi, T l d hd i hi]
    simp only [if_neg e]
end Go.Proofs.YtiifeniijcnahaaGreatDoor

namespace Go.Proofs.YtiifeniijcnahaaGreatDoor
set_option maxRecDepth 100000
open Go.ChangeShapes Go.WideShapes Go.ChangeAt Go.RowKit Go.Joins
set_option linter.unusedVariables false

/-- The values of a line whose cells are known one by one. -/
theorem cels_of_each {k : IntKind} {w : World} {b off n : Nat} {F : Nat → Cel} (h : ∀ i, i < n → ∀ d v, (cellL k (F i))[d]? = some v → w.cell? ⟨b, off + (i * 7 + d), none⟩ = some v) : Cels k w (some ⟨b, off, none⟩) (tab n F) := by
  refine .inr ⟨b, off, rfl, fun j v hj => ?_⟩
  have hl : j < n * 7 := by have := (List.getElem?_eq_some_iff.1 hj).1; rwa [flatC_len, tab_len] at this
  have e : j = j / 7 * 7 + j % 7 := by omega
  have hq : j / 7 < n := by omega
  have hd : j % 7 < 7 := by omega
  rw [e, flatC_get k _ _ _ hd, tab_get _ _ _ hq] at hj
  have := h (j / 7) hq (j % 7) v hj
  rwa [← e] at this
theorem list7 {α : Type} {cs : List α} (h : cs.length = 7) : ∃ c0 c1 c2 c3 c4 c5 c6, cs = [c0, c1, c2, c3, c4, c5, c6] := by
  match cs, h with
  | [c0, c1, c2, c3, c4, c5, c6], _ => exact ⟨c0, c1, c2, c3, c4, c5, c6, rfl⟩
section
variable {H : Type} {enc : TypeId × Value → H} {w : World} {base : Nat} {spare : Nat → Bool} {held : Bool}
theorem open_line {a : Option Addr} {len cap : Nat} {x : DataW H} {p : List MemPlace} (h : DataW.Trod enc Tryz.prog w base spare held 41 (.slice a len cap) x p) : ∃ cs, LineIn w a len cap cs := by
  obtain ⟨fuel, hf⟩ := h
  rcases Deep.open_slice Tryz.underlying41 hf with ⟨hcs, _⟩ | ⟨ad, l, c, m, n, D, Pl, hcs, hb, hl, hm, hmm, _, hel⟩
  · simp [Value.cells] at hcs
    obtain ⟨rfl, rfl, rfl⟩ := hcs
    exact ⟨[], .nil, Nat.le_refl _, Nat.le_refl _, fun _ => rfl, fun i hi => by cases hi⟩
  · simp [Value.cells] at hcs
    obtain ⟨rfl, rfl, rfl⟩ := hcs
    have hlm : len ≤ m := by rw [hmm]; split <;> omega
    rw [sizeCell] at hel
    have each : ∀ i, i < len → ∃ c : Cel, CelB c ∧ ∀ d v, (cellL .i32 c)[d]? = some v → w.cell? ((ad.add (i * 7)).add d) = some v := by
      intro i hi
      obtain ⟨cs', h1, h2⟩ := hel i (by omega)
      obtain ⟨-, h3, h4⟩ := World.cells?_some h1
      obtain ⟨c0, c1, c2, c3, c4, c5, c6, rfl⟩ := list7 h3
      obtain ⟨r, q, y, z, f, g, b, e, ok⟩ := cells_cell h2
      refine ⟨⟨r, q, y, z, ⟨f, g, b⟩⟩, ⟨ok.1, ok.2.1, ok.2.2.1, ok.2.2.2.1⟩, fun d v hv => ?_⟩
      have hd : d < 7 := (List.getElem?_eq_some_iff.1 hv).1
      rw [h4 d hd, e]
      exact hv
    by_cases h0 : len = 0
    · subst h0
      exact ⟨[], .nil, Nat.le_refl _, hl, (fun h => by cases h), fun i hi => by cases hi⟩
    · obtain ⟨c0, _, hc0⟩ := each 0 (by omega)
      have hs : ad.spot = none := by
        have := World.cell?_spot (hc0 0 _ rfl)
        simpa [Addr.add] using this
      obtain ⟨b, off, spot⟩ := ad
      simp only at hs
      subst hs
      have hadd : ∀ i j, ((⟨b, off, none⟩ : Addr).add i).add j = ⟨b, off + (i + j), none⟩ := by
        intro i j
        have e1 : ∀ (o q : Nat), (⟨b, o, none⟩ : Addr).add q = ⟨b, o + q, none⟩ := fun o q => by unfold Addr.add; split <;> simp_all
        rw [e1, e1, Nat.add_assoc]
      have each2 : ∀ i : Nat, ∃ c : Cel, i < len → CelB c ∧ ∀ d v, (cellL .i32 c)[d]? = some v → w.cell? ⟨b, off + (i * 7 + d), none⟩ = some v := by
        intro i
        by_cases hi : i < len
        · obtain ⟨c, h1, h2⟩ := each i hi
          exact ⟨c, fun _ => ⟨h1, fun d v hv => by rw [← hadd]; exact h2 d v hv⟩⟩
        · exact ⟨zeroC, fun q => absurd q hi⟩
      let F : Nat → Cel := fun i => Classical.choose (each2 i)
      have hF : ∀ i, i < len → CelB (F i) ∧ ∀ d v, (cellL .i32 (F i))[d]? = some v → w.cell? ⟨b, off + (i * 7 + d), none⟩ = some v := fun i hi => Classical.choose_spec (each2 i) hi
      exact ⟨tab len F, cels_of_each fun i hi => (hF i hi).2, by rw [tab_len]; exact Nat.le_refl _, hl, (fun h => by cases h), LB_tab fun i hi => (hF i hi).1⟩
end
end Go.Proofs.YtiifeniijcnahaaGreatDoor
