/-
  Contracts and plain mathematics of LSame, LV, LMath2, GMath, DMath, LWalkM.
-/
import Derived.Test.YtoddfaoifnkhlaaGreatDoorB5
import Derived.Test.YtoddfaoifnkhlaaGreatDoorB6
import Derived.Test.YtoddfaoifnkhlaaGreatDoorB2
import Derived.Test.YtoddfaoifnkhlaaGreatDoorB1
namespace Go.Proofs.YtoddfaoifnkhlaaGreatDoor
set_option maxRecDepth 100000
set_option linter.unusedVariables false
set_option maxHeartbeats 8000000
section
open Go.ChangeShapes Go.WideShapes Go.ChangeAt Go.RowKit
theorem neqCell (W : World) (r m n w f g b r' m' n' w' f' g' b' : Int) :
  (binOp .neq 65 (.agg #[.int .i32 r, .int .i32 m, .int .i32 n, .int .u8 w, .int .u8 f, .int .u8 g, .int .u8 b]) (.agg #[.int .i32 r', .int .i32 m', .int .i32 n', .int .u8 w', .int .u8 f', .int .u8 g', .int .u8 b'])).run Tryz.prog W = .ok (.bool (!(eqC r m n w f g b r' m' n' w' f' g' b'))) W := by
 rw [run_neq_struct, equalCell 9997]; rfl
theorem neqC (W : World) (r m n w f g b r' m' n' w' f' g' b' : Int) :
  (binOp .neq 95 (.agg #[.int .i64 r, .int .i64 m, .int .i64 n, .int .u8 w, .int .u8 f, .int .u8 g, .int .u8 b]) (.agg #[.int .i64 r', .int .i64 m', .int .i64 n', .int .u8 w', .int .u8 f', .int .u8 g', .int .u8 b'])).run Tryz.prog W = .ok (.bool (!(eqC r m n w f g b r' m' n' w' f' g' b'))) W := by
 rw [run_neq_struct, equalC 9997]; rfl
theorem neqP (W : World) (f g b f' g' b' : Int) :
  (binOp .neq 93 (.agg #[.int .u8 f, .int .u8 g, .int .u8 b]) (.agg #[.int .u8 f', .int .u8 g', .int .u8 b'])).run Tryz.prog W = .ok (.bool (!(eqP f g b f' g' b'))) W := by
 rw [run_neq_struct, equalP 93 Tryz.underlying93 (by kernel_rfl) fieldsP 9998]; rfl
theorem eqC_cel (r m x : Int) (d f y b : Nat) (r' m' x' : Int) (d' f' y' b' : Nat) : eqC r m x (d : Int) (f : Int) (y : Int) (b : Int) r' m' x' (d' : Int) (f' : Int) (y' : Int) (b' : Int) = decide ((⟨r, m, x, d, ⟨f, y, b⟩⟩ : Cel) = ⟨r', m', x', d', ⟨f', y', b'⟩⟩) := by
 rw [eqC_iff, Bool.eq_iff_iff, decide_eq_true_iff, decide_eq_true_iff]
 simp only [Cel.mk.injEq, Pn.mk.injEq, Int.ofNat_inj]
theorem eqP_pen (f y b f' y' b' : Nat) : eqP (f : Int) (y : Int) (b : Int) (f' : Int) (y' : Int) (b' : Int) = decide ((⟨f, y, b⟩ : Pn) = ⟨f', y', b'⟩) := by
 unfold eqP
 rw [Bool.eq_iff_iff, decide_eq_true_iff]
 simp only [Bool.and_eq_true, beq_iff_eq, Pn.mk.injEq, Int.ofNat_inj]
theorem take_cel (a b : List Cel) (k : Nat) (ha : k < a.length) (hb : k < b.length) (h : a.take k = b.take k) (e : cAt a k = cAt b k) : a.take (k + 1) = b.take (k + 1) := by
 rw [List.take_succ_eq_append_getElem ha, List.take_succ_eq_append_getElem hb, h]
 have h1 : a[k] = cAt a k := Option.some.inj ((List.getElem?_eq_getElem ha).symm.trans (get_cAt a k ha))
 have h2 : b[k] = cAt b k := Option.some.inj ((List.getElem?_eq_getElem hb).symm.trans (get_cAt b k hb))
 rw [h1, h2, e]
theorem equal_any (A C : Option Addr) (n c m d : Nat) (xs ys : List Cel) (w : World) (ha : Cels .i32 w A xs) (hb : Cels .i32 w C ys) (hn : xs.length = n) (hm : ys.length = m) (hl : n ≤ 1000000) :
  Calls Tryz.prog 85 #[.slice A n c, .slice C m d] w (Said (decide (xs = ys)) w) := by
 have nC := @neqCell
 have HN := hide hn; have HM := hide hm; have HA := hide ha; have HC := hide hb
 by_cases hnm : n = m
 ·have en : ((n : Int) != (m : Int)) = false := by simp; omega
  clear hn hm ha hb
  go_enter Tryz.func85, Tryz.ntmps85
  go_wp2
  go_loopw [5, 13] (fun _ i wr => ∃ k : Nat, k ≤ n ∧ i = .int .i64 k ∧ Hid (xs.take k = ys.take k) ∧ Below w.heap.size w wr) (fun _ i _ => n - (intOf i).toNat)
  case atStart => exact ⟨0, Nat.zero_le _, rfl, (by unfold Hid; simp), Below.refl _ _⟩
  case round =>
   obtain ⟨k, hk, rfl, ht, hbel⟩ := hrel
   have HB := hide hbel; clear hbel
   by_cases hlt : k < n
   ·obtain ⟨b1, o1, rfl, l1, -⟩ := HA.out.at (i := k) (by rw [HN.out]; exact hlt)
    obtain ⟨b2, o2, rfl, l2, -⟩ := HC.out.at (i := k) (by rw [HM.out]; omega)
    by_cases he : cAt xs k = cAt ys k
    ·have HT := hide (take_cel xs ys k (by rw [HN.out]; exact hlt) (by rw [HM.out]; omega) ht.out he)
     obtain ⟨⟨r, x, y, z, ⟨f, g, b⟩⟩, hc⟩ : ∃ q, cAt xs k = q := ⟨_, rfl⟩
     have hc2 := he.symm.trans hc
     obtain ⟨u0, u1, u2, u3, u4, u5, u6, -⟩ := (HA.out.below HB.out).sevenC k (by rw [HN.out]; exact hlt) hc
     obtain ⟨v0, v1, v2, v3, v4, v5, v6, -⟩ := (HC.out.below HB.out).sevenC k (by rw [HM.out]; omega) hc2
     have hq := eqC_self r x y (z : Int) (f : Int) (g : Int) (b : Int)
     clear hc hc2 he ht; go_wp2
     go_quiet (fail)
     go_wp2
     go_roundw
     case rel => exact ⟨k + 1, by omega, by go_num, HT, HB.out.drewN _⟩
     case measure => simp [intOf]; omega
    ·have HF : Hid (decide (xs = ys) = false) := by unfold Hid; exact decide_eq_false (fun q => he (by rw [q]))
     obtain ⟨⟨r, x, y, z, ⟨f, g, b⟩⟩, hc⟩ : ∃ q, cAt xs k = q := ⟨_, rfl⟩
     obtain ⟨⟨r', x', y', z', ⟨f', g', b'⟩⟩, hc2⟩ : ∃ q, cAt ys k = q := ⟨_, rfl⟩
     rw [hc, hc2] at he
     obtain ⟨u0, u1, u2, u3, u4, u5, u6, -⟩ := (HA.out.below HB.out).sevenC k (by rw [HN.out]; exact hlt) hc
     obtain ⟨v0, v1, v2, v3, v4, v5, v6, -⟩ := (HC.out.below HB.out).sevenC k (by rw [HM.out]; omega) hc2
     have hq : eqC r x y (z : Int) (f : Int) (g : Int) (b : Int) r' x' y' (z' : Int) (f' : Int) (g' : Int) (b' : Int) = false := by rw [eqC_cel]; exact decide_eq_false he
     clear hc hc2 he ht; go_wp2
     go_quiet (fail)
     go_wp2; go_ret
     exact ⟨ret_bool HF.out.symm, HB.out.drewN _⟩
   ·have HF : Hid (decide (xs = ys) = true) := by
     unfold Hid
     refine decide_eq_true ?_
     have q := ht.out
     rwa [List.take_of_length_le (by rw [HN.out]; omega), List.take_of_length_le (by rw [HM.out]; omega)] at q
    clear ht; go_wp2; go_ret
    exact ⟨ret_bool HF.out.symm, HB.out⟩
 ·have en : ((n : Int) != (m : Int)) = true := by simp; omega
  have HF : Hid (decide (xs = ys) = false) := by unfold Hid; exact decide_eq_false (fun q => hnm (by rw [← hn, ← hm, q]))
  clear hn hm ha hb hnm
  go_enter Tryz.func85, Tryz.ntmps85
  go_wp2; go_ret
  exact ⟨ret_bool HF.out.symm, Below.refl _ _⟩
theorem rsame6_any (A C : Option Addr) (n c m d : Nat) (xs ys : List Cel) (w : World) (ha : Cels .i64 w A xs) (hb : Cels .i64 w C ys) (hn : xs.length = n) (hm : ys.length = m) (hl : n ≤ 1000000) :
  Calls Tryz.prog 41 #[.slice A n c, .slice C m d] w (Said (decide (xs = ys)) w) := by
 have nC := @neqC
 have HN := hide hn; have HM := hide hm; have HA := hide ha; have HC := hide hb
 by_cases hnm : n = m
 ·have en : ((n : Int) != (m : Int)) = false := by simp; omega
  clear hn hm ha hb
  go_enter Tryz.func41, Tryz.ntmps41
  go_wp2
  go_loopw [5] (fun i wr => ∃ k : Nat, k ≤ n ∧ i = .int .i64 k ∧ Hid (xs.take k = ys.take k) ∧ Below w.heap.size w wr) (fun i _ => n - (intOf i).toNat)
  case atStart => exact ⟨0, Nat.zero_le _, rfl, (by unfold Hid; simp), Below.refl _ _⟩
  case round =>
   obtain ⟨k, hk, rfl, ht, hbel⟩ := hrel
   have HB := hide hbel; clear hbel
   by_cases hlt : k < n
   ·obtain ⟨b1, o1, rfl, l1, -⟩ := HA.out.at (i := k) (by rw [HN.out]; exact hlt)
    obtain ⟨b2, o2, rfl, l2, -⟩ := HC.out.at (i := k) (by rw [HM.out]; omega)
    by_cases he : cAt xs k = cAt ys k
    ·have HT := hide (take_cel xs ys k (by rw [HN.out]; exact hlt) (by rw [HM.out]; omega) ht.out he)
     obtain ⟨⟨r, x, y, z, ⟨f, g, b⟩⟩, hc⟩ : ∃ q, cAt xs k = q := ⟨_, rfl⟩
     have hc2 := he.symm.trans hc
     obtain ⟨u0, u1, u2, u3, u4, u5, u6, -⟩ := (HA.out.below HB.out).sevenC k (by rw [HN.out]; exact hlt) hc
     obtain ⟨v0, v1, v2, v3, v4, v5, v6, -⟩ := (HC.out.below HB.out).sevenC k (by rw [HM.out]; omega) hc2
     have hq := eqC_self r x y (z : Int) (f : Int) (g : Int) (b : Int)
     clear hc hc2 he ht; go_wp2
     go_quiet (fail)
     go_wp2
     go_roundw
     case rel => exact ⟨k + 1, by omega, by go_num, HT, HB.out.drewN _⟩
     case measure => simp [intOf]; omega
    ·have HF : Hid (decide (xs = ys) = false) := by unfold Hid; exact decide_eq_false (fun q => he (by rw [q]))
     obtain ⟨⟨r, x, y, z, ⟨f, g, b⟩⟩, hc⟩ : ∃ q, cAt xs k = q := ⟨_, rfl⟩
     obtain ⟨⟨r', x', y', z', ⟨f', g', b'⟩⟩, hc2⟩ : ∃ q, cAt ys k = q := ⟨_, rfl⟩
     rw [hc, hc2] at he
     obtain ⟨u0, u1, u2, u3, u4, u5, u6, -⟩ := (HA.out.below HB.out).sevenC k (by rw [HN.out]; exact hlt) hc
     obtain ⟨v0, v1, v2, v3, v4, v5, v6, -⟩ := (HC.out.below HB.out).sevenC k (by rw [HM.out]; omega) hc2
     have hq : eqC r x y (z : Int) (f : Int) (g : Int) (b : Int) r' x' y' (z' : Int) (f' : Int) (g' : Int) (b' : Int) = false := by rw [eqC_cel]; exact decide_eq_false he
     clear hc hc2 he ht; go_wp2
     go_quiet (fail)
     go_wp2; go_ret
     exact ⟨ret_bool HF.out.symm, HB.out.drewN _⟩
   ·have HF : Hid (decide (xs = ys) = true) := by
     unfold Hid
     refine decide_eq_true ?_
     have q := ht.out
     rwa [List.take_of_length_le (by rw [HN.out]; omega), List.take_of_length_le (by rw [HM.out]; omega)] at q
    clear ht; go_wp2; go_ret
    exact ⟨ret_bool HF.out.symm, HB.out⟩
 ·have en : ((n : Int) != (m : Int)) = true := by simp; omega
  have HF : Hid (decide (xs = ys) = false) := by unfold Hid; exact decide_eq_false (fun q => hnm (by rw [← hn, ← hm, q]))
  clear hn hm ha hb hnm
  go_enter Tryz.func41, Tryz.ntmps41
  go_wp2; go_ret
  exact ⟨ret_bool HF.out.symm, Below.refl _ _⟩
theorem same6_any (A C : Option Addr) (n c m d : Nat) (xs ys : List Cel) (w : World) (ha : Cels .i32 w A xs) (hb : Cels .i32 w C ys) (hn : xs.length = n) (hm : ys.length = m) (hl : n ≤ 1000000) :
  Calls Tryz.prog 49 #[.slice A n c, .slice C m d] w (Said (decide (xs = ys)) w) := by
 have HN := hide hn; have HM := hide hm; have HA := hide ha; have HC := hide hb; clear hn hm ha hb
 go_enter Tryz.func49, Tryz.ntmps49
 go_wp2_with fail
 refine (equal_any A C n c m d xs ys w HA.out HC.out HN.out HM.out hl).mono ?_
 rintro e w1 ⟨rfl, hb⟩
 go_wp2; go_ret
 exact ⟨rfl, hb⟩
theorem celB_blank (p : Pn) : CelB (blankC p) := ⟨by show R32 32; unfold R32; omega, r32_0, r32_0, by show 1 < 256; omega⟩
theorem celB_rest (c : Cel) : CelB (restC c) := ⟨r32_0, r32_0, r32_0, by show 0 < 256; omega⟩
theorem LB_tab {n : Nat} {f : Nat → Cel} (h : ∀ i, i < n → CelB (f i)) : LB (tab n f) := by
 intro i hi
 rw [tab_len] at hi
 rw [tab_cAt n f i hi]
 exact h i hi
theorem LB_mend {cs : List Cel} (h : LB cs) : LB (mendC cs) := by
 refine LB_tab fun i hi => ?_
 unfold mendAt
 split
 ·exact celB_blank _
 ·exact h i hi
theorem LB_new (n : Int) : LB (newC n) := LB_tab fun i hi => celB_blank _
theorem LB_put {cs : List Cel} {a : Int} {c : Cel} (h : LB cs) (hc : CelB c) : LB (putC cs a c) := by
 unfold putC
 split
 ·refine LB_mend (LB_tab fun i hi => ?_)
  split
  ·exact hc
  ·split
   ·exact celB_rest _
   ·exact h i hi
 ·exact h
theorem LB_erase {cs : List Cel} {x y : Int} {p : Pn} (h : LB cs) : LB (eraseC cs x y p) := by
 refine LB_mend (LB_tab fun i hi => ?_)
 split
 ·exact celB_blank _
 ·exact h i hi
theorem LB_fit {cs : List Cel} {x : Int} (h : LB cs) : LB (fitC cs x) := by
 refine LB_mend (LB_tab fun i hi => ?_)
 split
 ·rename_i q; exact h i q
 ·exact celB_blank _
theorem celB_mark {c : Cel} {r : Int} (h : CelB c) (hr : R32 r) : CelB (markC c r).1 := by
 obtain ⟨r0, m0, n0, d0, p0⟩ := c
 obtain ⟨h1, h2, h3, h4⟩ := h
 obtain ⟨⟨⟨r1, m1, n1, d1, p1⟩, ok⟩, hm⟩ : ∃ q, markC ⟨r0, m0, n0, d0, p0⟩ r = q := ⟨_, rfl⟩
 rw [hm]
 exact mark_r32 hr h1 h2 h3 h4 hm
theorem LB_mark {cs : List Cel} {a r : Int} (h : LB cs) (hr : R32 r) : LB (lmarkC cs a r).1 := by
 unfold lmarkC
 split
 ·rename_i hin
  rw [set_tab]
  refine LB_tab fun i hi => ?_
  split
  ·refine celB_mark (h _ ?_) hr
   unfold mkAt; split <;> omega
  ·exact h i hi
 ·exact h
theorem lmark_len (cs : List Cel) (a r : Int) : (lmarkC cs a r).1.length = cs.length := by
 unfold lmarkC; split
 ·simp
 ·rfl
def LineN (k : IntKind) (n : Nat) (X : List Cel) (w : World) (e : Ending) (w' : World) : Prop := ∃ A c, e = .returned (.slice A n c) ∧ Cels k w' A X ∧ Below w.heap.size w w'
def LineN2 (k : IntKind) (n : Nat) (X : List Cel) (ok : Bool) (w : World) (e : Ending) (w' : World) : Prop := ∃ A c, e = .returned (.tuple #[.slice A n c, .bool ok]) ∧ Cels k w' A X ∧ Below w.heap.size w w'
theorem Lined.line {cs : List Cel} {n : Nat} {w : World} {e : Ending} {w' : World} (h : Lined cs w e w') (hn : cs.length = n) : LineN .i32 n cs w e w' := by
 obtain ⟨g, rfl, -, hw, hb⟩ := h
 subst hn
 exact ⟨_, _, rfl, hw.cels, hb⟩
theorem Lined2.line {cs : List Cel} {ok : Bool} {n : Nat} {w : World} {e : Ending} {w' : World} (h : Lined2 cs ok w e w') (hn : cs.length = n) : LineN2 .i32 n cs ok w e w' := by
 obtain ⟨g, rfl, -, hw, hb⟩ := h
 subst hn
 exact ⟨_, _, rfl, hw.cels, hb⟩
theorem LineV2.line {k : IntKind} {cs : List Cel} {ok : Bool} {n : Nat} {w : World} {e : Ending} {w' : World} (h : LineV2 k cs ok w e w') (hn : cs.length = n) : LineN2 k n cs ok w e w' := by
 obtain ⟨A, c, rfl, hc, hb⟩ := h
 subst hn
 exact ⟨_, _, rfl, hc, hb⟩
theorem MadeC.line {t : TypeId} {k : IntKind} {cs : List Cel} {n : Nat} {w : World} {e : Ending} {w' : World} (h : MadeC t k w cs e w') (hn : cs.length = n) : LineN k n cs w e w' := by
 obtain ⟨v, rfl, ho⟩ := h
 obtain ⟨A, c, rfl, hc, -⟩ := ho.form
 subst hn
 exact ⟨_, _, rfl, hc, ho.bel⟩
section
variable {A C : Option Addr} {n c m d : Nat} {cs xs ys : List Cel} {w : World}
theorem put_v (at_ : Int) (r q x : Int) (d' f g b : Nat) (ha : -9223372036854775808 ≤ at_ ∧ at_ < 9223372036854775808) {X : List Cel} {ok : Bool} (hX : putC cs at_ ⟨r, q, x, d', ⟨f, g, b⟩⟩ = X) (hok : putOk cs at_ ⟨r, q, x, d', ⟨f, g, b⟩⟩ = ok) (h : Cels .i32 w A cs) (hn : cs.length = n) (hl : n ≤ 1000000) (hd : d' < 256) (hS : Spans w) :
  Calls Tryz.prog 80 #[.slice A n c, .int .i64 at_, .agg #[.int .i32 r, .int .i32 q, .int .i32 x, .int .u8 d', .int .u8 f, .int .u8 g, .int .u8 b]] w (LineN2 .i32 n X ok w) := by
 subst hX hok
 exact (put_any A n c at_ r q x d' f g b hd cs w h hn hl hS ha).mono fun e w' q => q.line (by rw [put_len, hn])
theorem rput_v (at_ : Int) (r q x : Int) (d' f g b : Nat) (ha : -9223372036854775808 ≤ at_ ∧ at_ < 9223372036854775808) {X : List Cel} {ok : Bool} (hX : putC cs at_ ⟨r, q, x, d', ⟨f, g, b⟩⟩ = X) (hok : putOk cs at_ ⟨r, q, x, d', ⟨f, g, b⟩⟩ = ok) (h : Cels .i64 w A cs) (hn : cs.length = n) (hl : n ≤ 1000000) (hd : d' < 256) :
  Calls Tryz.prog 94 #[.slice A n c, .int .i64 at_, .agg #[.int .i64 r, .int .i64 q, .int .i64 x, .int .u8 d', .int .u8 f, .int .u8 g, .int .u8 b]] w (LineN2 .i64 n X ok w) := by
 subst hX hok
 exact (rput_any A n c at_ r q x d' f g b hd cs w h hn hl ha).mono fun e w' q => q.line (by rw [put_len, hn])
theorem lmark_v (at_ x : Int) {X : List Cel} {ok : Bool} (hX : lmarkC cs at_ x = (X, ok)) (h : Cels .i32 w A cs) (hn : cs.length = n) (hl : n ≤ 1000000) (hS : Spans w) :
  Calls Tryz.prog 97 #[.slice A n c, .int .i64 at_, .int .i32 x] w (LineN2 .i32 n X ok w) := by
 refine (lmark_any A n c at_ x cs w h hn hl hS).mono fun e w' q => ?_
 have := q.line (n := n) (by rw [lmark_len, hn])
 rwa [hX] at this
theorem rlmark_v (at_ x : Int) {X : List Cel} {ok : Bool} (hX : lmarkC cs at_ x = (X, ok)) (h : Cels .i64 w A cs) (hn : cs.length = n) (hl : n ≤ 1000000) (hA : A = none → c = 0) :
  Calls Tryz.prog 95 #[.slice A n c, .int .i64 at_, .int .i64 x] w (LineN2 .i64 n X ok w) := by
 refine (rlmark_any A n c at_ x cs w h hn hl hA).mono fun e w' q => ?_
 have := q.line (n := n) (by rw [lmark_len, hn])
 rwa [hX] at this
theorem erase_v (x y : Int) (f g b : Nat) {X : List Cel} (hX : eraseC cs x y ⟨f, g, b⟩ = X) (h : Cels .i32 w A cs) (hn : cs.length = n) (hl : n ≤ 1000000) : Calls Tryz.prog 99 #[.slice A n c, .int .i64 x, .int .i64 y, .agg #[.int .u8 f, .int .u8 g, .int .u8 b]] w (LineN .i32 n X w) := by
 subst hX
 exact (erase_any A n c x y f g b cs w h hn hl).mono fun e w' q => q.line (by rw [erase_len, hn])
theorem rerase_v (x y : Int) (f g b : Nat) {X : List Cel} (hX : eraseC cs x y ⟨f, g, b⟩ = X) (h : Cels .i64 w A cs) (hn : cs.length = n) (hl : n ≤ 1000000) : Calls Tryz.prog 102 #[.slice A n c, .int .i64 x, .int .i64 y, .agg #[.int .u8 f, .int .u8 g, .int .u8 b]] w (LineN .i64 n X w) := by
 subst hX
 exact (rerase_any A n c x y f g b cs w h hn hl).mono fun e w' q => q.line (by rw [erase_len, hn])
theorem fit_v (x : Int) {N : Nat} {X : List Cel} (hX : fitC cs x = X) (hN : lenN x = N) (h : Cels .i32 w A cs) (hn : cs.length = n) : Calls Tryz.prog 72 #[.slice A n c, .int .i64 x] w (LineN .i32 N X w) := by
 subst hX
 exact (lfit_any A n c x cs w h hn).mono fun e w' q => q.line (by rw [fit_len, hN])
theorem new_v (x : Int) {N : Nat} {X : List Cel} (hX : newC x = X) (hN : lenN x = N) (w : World) : Calls Tryz.prog 75 #[.int .i64 x] w (LineN .i32 N X w) := by
 subst hX
 exact (new_any x w).mono fun e w' q => q.line (by rw [new_len, hN])
end
end
theorem alone_congr {l l' : List Cel} (h : ∀ i, wAt l i = wAt l' i) (i : Nat) : aloneC l i = aloneC l' i := by unfold aloneC; rw [h i, h (i + 1), h (i - 1)]
theorem alone_1 {l : List Cel} {i : Nat} (h : wAt l i = 1) : aloneC l i = false := by unfold aloneC; rw [if_neg (by omega), if_neg (by omega)]
theorem alone_of2 {l : List Cel} {i : Nat} (h : wAt l i = 2) (h1 : wAt l (i + 1) = 0) : aloneC l i = false := by unfold aloneC; rw [if_pos h]; simp [h1]
theorem alone_of0 {l : List Cel} {i : Nat} (h : wAt l i = 0) (h0 : i ≠ 0) (h1 : wAt l (i - 1) = 2) : aloneC l i = false := by unfold aloneC; rw [if_neg (by omega), if_pos h]; simp [h0, h1]
theorem mend_wAt (l : List Cel) (i : Nat) (hi : i < l.length) : wAt (mendC l) i = if aloneC l i = true then 1 else wAt l i := by
 rw [wAt_in _ _ (by rw [mend_len]; exact hi), mend_cAt l i hi, wAt_in l i hi]
 unfold mendAt
 split <;> rfl
theorem mend_w2 {l : List Cel} {i : Nat} (h : wAt (mendC l) i = 2) : wAt l i = 2 ∧ aloneC l i = false := by
 have hi : i < l.length := by have := wAt_lt (l := mendC l) (i := i) (by omega); rwa [mend_len] at this
 rw [mend_wAt l i hi] at h
 cases q : aloneC l i
 ·rw [q] at h; simp at h; exact ⟨h, rfl⟩
 ·rw [q] at h; simp at h
theorem mend_w0 {l : List Cel} {i : Nat} (h : wAt (mendC l) i = 0) : wAt l i = 0 ∧ aloneC l i = false := by
 have hi : i < l.length := by have := wAt_lt (l := mendC l) (i := i) (by omega); rwa [mend_len] at this
 rw [mend_wAt l i hi] at h
 cases q : aloneC l i
 ·rw [q] at h; simp at h; exact ⟨h, rfl⟩
 ·rw [q] at h; simp at h
theorem mend_none (l : List Cel) (i : Nat) : aloneC (mendC l) i = false := by
 by_cases h2 : wAt (mendC l) i = 2
 ·obtain ⟨h3, h4⟩ := mend_w2 h2
  have h5 := alone_2 h3 h4
  have hi1 : i + 1 < l.length := wAt_lt (by omega)
  refine alone_of2 h2 ?_
  rw [mend_wAt l _ hi1, alone_of0 h5 (by omega) h3]
  simp [h5]
 ·by_cases h0 : wAt (mendC l) i = 0
  ·obtain ⟨h3, h4⟩ := mend_w0 h0
   obtain ⟨h5, h6⟩ := alone_0 h3 h4
   have hi1 : i - 1 < l.length := wAt_lt (by omega)
   refine alone_of0 h0 h5 ?_
   rw [mend_wAt l _ hi1, alone_of2 h6 (by rw [show i - 1 + 1 = i by omega]; exact h3)]
   simp [h6]
  ·unfold aloneC; rw [if_neg h2, if_neg h0]
theorem mend_stays {l : List Cel} (h : ∀ i, i < l.length → aloneC l i = false) : mendC l = l := by
 unfold mendC
 conv => rhs; rw [← tab_self l]
 exact tab_eq fun i hi => mendAt_no l i (h i hi)
theorem mend_right {l : List Cel} (h : rightL l = true) : mendC l = l := mend_stays fun i hi => ((okAt_iff l i).1 ((rightL_iff l).1 h i hi)).2.1
def fine (l : List Cel) : Prop := ∀ i, i < l.length → rightC (cAt l i) = true ∧ (wAt l i = 0 → i ≠ 0 → wAt l (i - 1) = 2 → (cAt l i).p = (cAt l (i - 1)).p)
theorem right_of_fine {l : List Cel} (h : fine l) : rightL (mendC l) = true := by
 rw [rightL_iff]
 intro i hi
 rw [mend_len] at hi
 rw [okAt_iff]
 refine ⟨?_, mend_none l i, fun h0 => ?_⟩
 ·rw [mend_cAt l i hi]
  unfold mendAt
  split
  ·exact right_blank (right_pen (h i hi).1)
  ·exact (h i hi).1
 ·obtain ⟨h3, h4⟩ := mend_w0 h0
  obtain ⟨h5, h6⟩ := alone_0 h3 h4
  have h7 := alone_of2 h6 (by rw [show i - 1 + 1 = i by omega]; exact h3)
  rw [mend_cAt l i hi, mend_cAt l (i - 1) (by omega), mendAt_no l i h4, mendAt_no l (i - 1) h7]
  exact (h i hi).2 h3 h5 h6
theorem fine_of_right {l : List Cel} (h : rightL l = true) {i : Nat} (hi : i < l.length) : rightC (cAt l i) = true ∧ (wAt l i = 0 → (cAt l i).p = (cAt l (i - 1)).p) := by
 obtain ⟨h1, _, h3⟩ := (okAt_iff l i).1 ((rightL_iff l).1 h i hi)
 exact ⟨h1, h3⟩
theorem tab_wAt (n : Nat) (f : Nat → Cel) (i : Nat) (h : i < n) : wAt (tab n f) i = (f i).w := by rw [wAt_in _ _ (by rw [tab_len]; exact h), tab_cAt n f i h]
theorem right_put {l : List Cel} {a : Int} {c : Cel} (h : rightL l = true) : rightL (putC l a c) = true := by
 unfold putC
 split
 ·rename_i hok
  unfold putOk at hok
  rw [decide_eq_true_iff] at hok
  obtain ⟨hc, hw, ha, hl⟩ := hok
  have hw2 : c.w = 1 ∨ c.w = 2 := by rcases right_w hc with q | q | q; exact absurd q hw; exact .inl q; exact .inr q
  refine right_of_fine ?_
  unfold putTab; intro i hi
  rw [tab_len] at hi
  rw [tab_cAt _ _ _ hi, tab_wAt _ _ _ hi]
  refine ⟨?_, fun h0 hi0 h2 => ?_⟩
  ·split
   ·exact hc
   ·split
    ·exact right_rest hc
    ·exact (fine_of_right h hi).1
  ·have hi1 : i - 1 < l.length := by omega
   rw [tab_wAt _ _ _ hi1] at h2
   rw [tab_cAt _ _ _ hi1]
   generalize a.toNat = k at *
   by_cases e1 : i = k
   ·rw [if_pos e1] at h0; exact absurd h0 hw
   ·rw [if_neg e1] at h0 ⊢
    by_cases e2 : i = k + 1 ∧ c.w = 2
    ·rw [if_pos e2, if_pos (by omega)]; rfl
    ·rw [if_neg e2] at h0 ⊢
     by_cases e3 : i - 1 = k
     ·rw [if_pos e3] at h2; omega
     ·rw [if_neg e3] at h2 ⊢
      by_cases e4 : i - 1 = k + 1 ∧ c.w = 2
      ·rw [if_pos e4] at h2; cases h2
      ·rw [if_neg e4]
       refine (fine_of_right h hi).2 ?_
       rw [wAt_in l i hi]; exact h0
 ·exact h
theorem right_erase {l : List Cel} {x y : Int} {p : Pn} (h : rightL l = true) (hp : rightN p = true) : rightL (eraseC l x y p) = true := by
 refine right_of_fine ?_
 unfold eraseTab; intro i hi
 rw [tab_len] at hi
 rw [tab_cAt _ _ _ hi, tab_wAt _ _ _ hi]
 refine ⟨?_, fun h0 hi0 h2 => ?_⟩
 ·split
  ·exact right_blank hp
  ·exact (fine_of_right h hi).1
 ·have hi1 : i - 1 < l.length := by omega
  rw [tab_wAt _ _ _ hi1] at h2
  rw [tab_cAt _ _ _ hi1]
  split at h0
  ·cases h0
  ·rename_i e1
   split at h2
   ·cases h2
   ·rename_i e2
    rw [if_neg e1, if_neg e2]
    refine (fine_of_right h hi).2 ?_
    rw [wAt_in l i hi]; exact h0
theorem right_fit {l : List Cel} {x : Int} (h : rightL l = true) : rightL (fitC l x) = true := by
 refine right_of_fine ?_
 unfold fitTab; intro i hi
 rw [tab_len] at hi
 rw [tab_cAt _ _ _ hi, tab_wAt _ _ _ hi]
 refine ⟨?_, fun h0 hi0 h2 => ?_⟩
 ·split
  ·rename_i q; exact (fine_of_right h q).1
  ·exact right_blank (by decide)
 ·have hi1 : i - 1 < lenN x := by omega
  rw [tab_wAt _ _ _ hi1] at h2
  rw [tab_cAt _ _ _ hi1]
  split at h0
  ·rename_i e1
   rw [if_pos e1, if_pos (by omega)]
   refine (fine_of_right h e1).2 ?_
   rw [wAt_in l i e1]; exact h0
  ·cases h0
theorem mark_same (c : Cel) (r : Int) : (markC c r).1.w = c.w ∧ (markC c r).1.p = c.p := by
 unfold markC
 split
 ·split
  ·exact ⟨rfl, rfl⟩
  ·split
   ·exact ⟨rfl, rfl⟩
   ·exact ⟨rfl, rfl⟩
 ·exact ⟨rfl, rfl⟩
theorem right_alike {l l' : List Cel} (hl : l'.length = l.length) (h : ∀ i, i < l.length → (cAt l' i).w = (cAt l i).w ∧ (cAt l' i).p = (cAt l i).p ∧ (rightC (cAt l i) = true → rightC (cAt l' i) = true)) (hr : rightL l = true) : rightL l' = true := by
 have hw : ∀ i, wAt l' i = wAt l i := by
  intro i
  by_cases hi : i < l.length
  ·rw [wAt_in l' i (by omega), wAt_in l i hi]; exact (h i hi).1
  ·rw [wAt_out l' i (by omega), wAt_out l i (by omega)]
 rw [rightL_iff]
 intro i hi
 rw [hl] at hi
 obtain ⟨h1, h2, h3⟩ := (okAt_iff l i).1 ((rightL_iff l).1 hr i hi)
 rw [okAt_iff]
 refine ⟨(h i hi).2.2 h1, by rw [alone_congr hw]; exact h2, fun h0 => ?_⟩
 rw [hw] at h0
 obtain ⟨h5, h6⟩ := alone_0 h0 h2
 rw [(h i hi).2.1, (h (i - 1) (by omega)).2.1]
 exact h3 h0
theorem right_lmark {l : List Cel} {a r : Int} (h : rightL l = true) : rightL (lmarkC l a r).1 = true := by
 unfold lmarkC
 split
 ·simp only
  refine right_alike (by simp) (fun i hi => ?_) h
  rw [set_tab, tab_cAt _ _ _ hi]
  split
  ·rename_i e
   rw [e]
   exact ⟨(mark_same _ _).1, (mark_same _ _).2, right_mark⟩
  ·exact ⟨rfl, rfl, fun q => q⟩
 ·exact h
structure Gd where
 ls : List (List Cel)
 row : Nat
 col : Nat
def lAt (ls : List (List Cel)) (i : Nat) : List Cel := ls.getD i []
def gtab (n : Nat) (f : Nat → List Cel) : List (List Cel) := (List.range n).map f
theorem gtab_len (n : Nat) (f : Nat → List Cel) : (gtab n f).length = n := by simp [gtab]
theorem gtab_get (n : Nat) (f : Nat → List Cel) (i : Nat) (h : i < n) : (gtab n f)[i]? = some (f i) := by simp [gtab, h]
theorem gtab_no (n : Nat) (f : Nat → List Cel) (i : Nat) (h : n ≤ i) : (gtab n f)[i]? = none := by simp [gtab, h]
theorem gtab_lAt (n : Nat) (f : Nat → List Cel) (i : Nat) (h : i < n) : lAt (gtab n f) i = f i := by
 unfold lAt; rw [List.getD_eq_getElem?_getD, gtab_get n f i h]; rfl
theorem gtab_snoc (n : Nat) (f : Nat → List Cel) : gtab (n + 1) f = gtab n f ++ [f n] := by simp [gtab, List.range_succ]
theorem get_lAt (l : List (List Cel)) (i : Nat) (h : i < l.length) : l[i]? = some (lAt l i) := by
 unfold lAt; rw [List.getD_eq_getElem?_getD, List.getElem?_eq_getElem h]; rfl
theorem gtab_self (l : List (List Cel)) : gtab l.length (lAt l) = l := by
 apply List.ext_getElem?
 intro i
 by_cases h : i < l.length
 ·rw [gtab_get _ _ _ h, get_lAt l i h]
 ·rw [gtab_no _ _ _ (by omega), List.getElem?_eq_none (by omega)]
theorem gtab_eq {n : Nat} {f g : Nat → List Cel} (h : ∀ i, i < n → f i = g i) : gtab n f = gtab n g := by
 apply List.ext_getElem?
 intro i
 by_cases hi : i < n
 ·rw [gtab_get _ _ _ hi, gtab_get _ _ _ hi, h i hi]
 ·rw [gtab_no _ _ _ (by omega), gtab_no _ _ _ (by omega)]
theorem gtab_is {l : List (List Cel)} {n : Nat} {f : Nat → List Cel} (hn : l.length = n) (h : ∀ i, i < n → lAt l i = f i) : l = gtab n f := by
 subst hn; rw [← gtab_eq h, gtab_self]
theorem set_lAt (l : List (List Cel)) (r i : Nat) (x : List Cel) (h : i < l.length) : lAt (l.set r x) i = if i = r then x else lAt l i := by
 unfold lAt
 rw [List.getD_eq_getElem?_getD, List.getElem?_set]
 by_cases q : r = i
 ·subst q; simp [h]
 ·rw [if_neg q, if_neg (Ne.symm q), List.getD_eq_getElem?_getD]
theorem set_same (l : List (List Cel)) (r : Nat) : l.set r (lAt l r) = l := by
 apply List.ext_getElem?
 intro i
 rw [List.getElem?_set]
 by_cases h : r = i
 ·subst h
  by_cases q : r < l.length
  ·rw [if_pos rfl, if_pos q, get_lAt l r q]
  ·simp [q]
 ·simp [h]
theorem set_gtab (l : List (List Cel)) (r : Nat) (x : List Cel) : l.set r x = gtab l.length (fun i => if i = r then x else lAt l i) := by
 refine gtab_is (by simp) fun i hi => set_lAt l r i x hi
def hasG (n : Nat) (r : Int) : Prop := 0 ≤ r ∧ r < (n : Int)
instance (n : Nat) (r : Int) : Decidable (hasG n r) := by unfold hasG; infer_instance
def nearN (x : Int) (n : Nat) : Nat := (min (max x 0) ((n : Int) - 1)).toNat
theorem nearN_lt (x : Int) (n : Nat) (h : 1 ≤ n) : nearN x n < n := by unfold nearN; omega
theorem nearN_self (k n : Nat) (h : k < n) : nearN (k : Int) n = k := by unfold nearN; omega
def sizeN (r c : Int) : Prop := (1 ≤ r ∧ r ≤ 512) ∧ (1 ≤ c ∧ c ≤ 512)
instance (r c : Int) : Decidable (sizeN r c) := by unfold sizeN; infer_instance
def newG (R C : Nat) : Gd := ⟨gtab R (fun _ => newC (C : Int)), 0, 0⟩
def putG (g : Gd) (r c : Int) (x : Cel) : Gd := if hasG g.ls.length r then { g with ls := g.ls.set r.toNat (putC (lAt g.ls r.toNat) c x) } else g
def putGOk (g : Gd) (r c : Int) (x : Cel) : Bool := decide (hasG g.ls.length r) && putOk (lAt g.ls r.toNat) c x
def markG (g : Gd) (r c m : Int) : Gd := if hasG g.ls.length r then { g with ls := g.ls.set r.toNat (lmarkC (lAt g.ls r.toNat) c m).1 } else g
def markGOk (g : Gd) (r c m : Int) : Bool := decide (hasG g.ls.length r) && (lmarkC (lAt g.ls r.toNat) c m).2
def eraseG (g : Gd) (r x y : Int) (p : Pn) : Gd := if hasG g.ls.length r ∧ rightN p = true then { g with ls := g.ls.set r.toNat (eraseC (lAt g.ls r.toNat) x y p) } else g
def layOk (g : Gd) (r : Int) (l : List Cel) (C : Nat) : Bool := decide (hasG g.ls.length r) && (decide (l.length = C) && rightL l)
def layG (g : Gd) (r : Int) (l : List Cel) (C : Nat) : Gd := if layOk g r l C = true then { g with ls := g.ls.set r.toNat l } else g
def moveG (g : Gd) (r c : Int) (C : Nat) : Gd := { g with row := nearN r g.ls.length, col := nearN c C }
def clampI (n : Int) (R : Nat) : Int := min (max n (-(R : Int))) (R : Int)
def scrollAt (ls : List (List Cel)) (C : Nat) (n : Int) (p : Pn) (i : Nat) : List Cel :=
 if 0 ≤ (i : Int) + n ∧ (i : Int) + n < (ls.length : Int) then lAt ls ((i : Int) + n).toNat else tab C (fun _ => blankC p)
def scrollG (g : Gd) (C : Nat) (n : Int) (p : Pn) : Gd := if rightN p = true then { g with ls := gtab g.ls.length (scrollAt g.ls C (clampI n g.ls.length) p) } else g
def fitAtG (ls : List (List Cel)) (C : Nat) (i : Nat) : List Cel := if i < ls.length then fitC (lAt ls i) (C : Int) else newC (C : Int)
def fitG (g : Gd) (R C : Nat) : Gd := ⟨gtab R (fitAtG g.ls C), nearN (g.row : Int) R, nearN (g.col : Int) C⟩
structure GOk (g : Gd) (R C : Nat) : Prop where
 r1 : 1 ≤ R
 r2 : R ≤ 512
 c1 : 1 ≤ C
 c2 : C ≤ 512
 len : g.ls.length = R
 each : ∀ i, i < R → (lAt g.ls i).length = C ∧ rightL (lAt g.ls i) = true ∧ LB (lAt g.ls i)
 row : g.row < R
 col : g.col < C
theorem lenN_nat (C : Nat) (h : C ≤ 512) : lenN (C : Int) = C := by unfold lenN; omega
theorem newC_len (C : Nat) (h : C ≤ 512) : (newC (C : Int)).length = C := by rw [newC, tab_len, lenN_nat C h]
theorem newC_is (C : Nat) (h : C ≤ 512) : newC (C : Int) = tab C (fun _ => blankC zeroP) := by unfold newC; rw [lenN_nat C h]
theorem right_blanks (C : Nat) {p : Pn} (hp : rightN p = true) : rightL (tab C (fun _ => blankC p)) = true := by
 rw [rightL_iff]
 intro i hi
 rw [tab_len] at hi
 have hw : wAt (tab C fun _ => blankC p) i = 1 := tab_wAt _ _ _ hi
 rw [okAt_iff, tab_cAt _ _ _ hi]
 exact ⟨right_blank hp, alone_1 hw, fun h => by omega⟩
theorem right_new (C : Nat) (h : C ≤ 512) : rightL (newC (C : Int)) = true := by rw [newC_is C h]; exact right_blanks C (by decide)
theorem erase_all (l : List Cel) (C : Nat) (hl : l.length = C) (p : Pn) : eraseC l 0 (C : Int) p = tab C (fun _ => blankC p) := by
 have e : eraseTab l 0 (C : Int) p = tab C (fun _ => blankC p) := by
  unfold eraseTab
  rw [hl]
  exact tab_eq fun i hi => by rw [if_pos (by omega)]
 unfold eraseC
 rw [e]
 refine mend_stays fun i hi => ?_
 rw [tab_len] at hi
 exact alone_1 (tab_wAt _ _ _ hi)
theorem fit_nil (C : Nat) : fitC [] (C : Int) = newC (C : Int) := by
 unfold fitC fitTab newC
 have e : tab (lenN (C : Int)) (fun i => if i < ([] : List Cel).length then cAt [] i else blankC zeroP) = tab (lenN (C : Int)) (fun _ => blankC zeroP) := tab_eq fun i hi => by rw [if_neg (by simp)]
 rw [e]
 refine mend_stays fun i hi => ?_
 rw [tab_len] at hi
 exact alone_1 (tab_wAt _ _ _ hi)
theorem fitAtG_is (ls : List (List Cel)) (C i : Nat) : fitAtG ls C i = fitC (lAt ls i) (C : Int) := by
 unfold fitAtG
 split
 ·rfl
 ·rename_i h
  rw [show lAt ls i = [] by unfold lAt; rw [List.getD_eq_getElem?_getD, List.getElem?_eq_none (by omega)]; rfl, fit_nil]
theorem mark_no (c : Cel) (r : Int) (h : (markC c r).2 = false) : (markC c r).1 = c := by
 unfold markC at *
 split
 ·rename_i q
  rw [if_pos q] at h
  split
  ·rename_i q2; rw [if_pos q2] at h; cases h
  ·rename_i q2
   rw [if_neg q2] at h
   split
   ·rename_i q3; rw [if_pos q3] at h; cases h
   ·rfl
 ·rfl
theorem set_self (l : List Cel) (k : Nat) : l.set k (cAt l k) = l := by
 rw [set_tab]
 conv => rhs; rw [← tab_self l]
 refine tab_eq fun i hi => ?_
 split
 ·rename_i h; rw [h]
 ·rfl
theorem markL_no (l : List Cel) (a r : Int) (h : (lmarkC l a r).2 = false) : (lmarkC l a r).1 = l := by
 unfold lmarkC at *
 split
 ·rename_i q
  rw [if_pos q] at h
  simp only at h ⊢
  rw [mark_no _ _ h, set_self]
 ·rfl
theorem putL_no (l : List Cel) (a : Int) (c : Cel) (h : putOk l a c = false) : putC l a c = l := by unfold putC; rw [h]; rfl
section
variable {g : Gd} {R C : Nat}
theorem GOk.new (r1 : 1 ≤ R) (r2 : R ≤ 512) (c1 : 1 ≤ C) (c2 : C ≤ 512) : GOk (newG R C) R C :=
 ⟨r1, r2, c1, c2, gtab_len _ _, fun i hi => by
  have e : lAt (newG R C).ls i = newC (C : Int) := gtab_lAt _ _ _ hi
  rw [e]
  exact ⟨newC_len C c2, right_new C c2, LB_new _⟩, by show 0 < R; omega, by show 0 < C; omega⟩
theorem GOk.set (h : GOk g R C) (r : Nat) (l : List Cel) (hl : l.length = C ∧ rightL l = true ∧ LB l) : GOk { g with ls := g.ls.set r l } R C :=
 ⟨h.r1, h.r2, h.c1, h.c2, by rw [List.length_set]; exact h.len, fun i hi => by
  show (lAt (g.ls.set r l) i).length = C ∧ rightL (lAt (g.ls.set r l) i) = true ∧ LB (lAt (g.ls.set r l) i)
  rw [set_lAt _ _ _ _ (by rw [h.len]; exact hi)]
  split
  ·exact hl
  ·exact h.each i hi, h.row, h.col⟩
theorem GOk.at (h : GOk g R C) {r : Int} (hr : hasG g.ls.length r) : r.toNat < R := by have := h.len; unfold hasG at hr; omega
theorem GOk.put (h : GOk g R C) (r c : Int) (x : Cel) (hx : CelB x) : GOk (putG g r c x) R C := by
 unfold putG
 split
 ·rename_i hr
  obtain ⟨h1, h2, h3⟩ := h.each _ (h.at hr)
  exact h.set _ _ ⟨by rw [put_len, h1], right_put h2, LB_put h3 hx⟩
 ·exact h
theorem GOk.mark (h : GOk g R C) (r c m : Int) (hm : R32 m) : GOk (markG g r c m) R C := by
 unfold markG
 split
 ·rename_i hr
  obtain ⟨h1, h2, h3⟩ := h.each _ (h.at hr)
  exact h.set _ _ ⟨by rw [lmark_len, h1], right_lmark h2, LB_mark h3 hm⟩
 ·exact h
theorem GOk.erase (h : GOk g R C) (r x y : Int) (p : Pn) : GOk (eraseG g r x y p) R C := by
 unfold eraseG
 split
 ·rename_i hr
  obtain ⟨h1, h2, h3⟩ := h.each _ (h.at hr.1)
  exact h.set _ _ ⟨by rw [erase_len, h1], right_erase h2 hr.2, LB_erase h3⟩
 ·exact h
theorem GOk.lay (h : GOk g R C) (r : Int) (l : List Cel) (hl : LB l) : GOk (layG g r l C) R C := by
 unfold layG
 split
 ·rename_i hr
  unfold layOk at hr
  simp only [Bool.and_eq_true, decide_eq_true_iff] at hr
  exact h.set _ _ ⟨hr.2.1, hr.2.2, hl⟩
 ·exact h
theorem GOk.move (h : GOk g R C) (r c : Int) : GOk (moveG g r c C) R C :=
 ⟨h.r1, h.r2, h.c1, h.c2, h.len, h.each, by show nearN r g.ls.length < R; rw [h.len]; exact nearN_lt _ _ h.r1, nearN_lt _ _ h.c1⟩
theorem GOk.scroll (h : GOk g R C) (n : Int) (p : Pn) : GOk (scrollG g C n p) R C := by
 unfold scrollG
 split
 ·rename_i hp
  refine ⟨h.r1, h.r2, h.c1, h.c2, by rw [gtab_len]; exact h.len, fun i hi => ?_, h.row, h.col⟩
  have e : lAt (gtab g.ls.length (scrollAt g.ls C (clampI n g.ls.length) p)) i = scrollAt g.ls C (clampI n g.ls.length) p i := gtab_lAt _ _ _ (by rw [h.len]; exact hi)
  show (lAt (gtab g.ls.length (scrollAt g.ls C (clampI n g.ls.length) p)) i).length = C ∧ rightL (lAt (gtab g.ls.length (scrollAt g.ls C (clampI n g.ls.length) p)) i) = true ∧ LB (lAt (gtab g.ls.length (scrollAt g.ls C (clampI n g.ls.length) p)) i)
  rw [e]
  unfold scrollAt
  split
  ·rename_i hq
   exact h.each _ (by have := h.len; omega)
  ·exact ⟨tab_len _ _, right_blanks C hp, LB_tab fun _ _ => celB_blank _⟩
 ·exact h
theorem GOk.fit (h : GOk g R C) {R' C' : Nat} (r1 : 1 ≤ R') (r2 : R' ≤ 512) (c1 : 1 ≤ C') (c2 : C' ≤ 512) : GOk (fitG g R' C') R' C' := by
 refine ⟨r1, r2, c1, c2, gtab_len _ _, fun i hi => ?_, nearN_lt _ _ r1, nearN_lt _ _ c1⟩
 have e : lAt (fitG g R' C').ls i = fitAtG g.ls C' i := gtab_lAt _ _ _ hi
 rw [e]
 unfold fitAtG
 split
 ·rename_i q
  obtain ⟨h1, h2, h3⟩ := h.each i (by rw [← h.len]; exact q)
  exact ⟨by rw [fit_len, lenN_nat _ c2], right_fit h2, LB_fit h3⟩
 ·exact ⟨newC_len _ c2, right_new _ c2, LB_new _⟩
end
structure Sp where
 row : Int
 col : Int
 cs : List Cel
deriving DecidableEq
structure Df where
 rows : Int
 cols : Int
 row : Int
 col : Int
 ss : List Sp
deriving DecidableEq
def zeroS : Sp := ⟨0, 0, []⟩
def sAt (l : List Sp) (i : Nat) : Sp := l.getD i zeroS
theorem get_sAt (l : List Sp) (i : Nat) (h : i < l.length) : l[i]? = some (sAt l i) := by
 unfold sAt; rw [List.getD_eq_getElem?_getD, List.getElem?_eq_getElem h]; rfl
def spE (R C : Int) (ss : List Sp) (i : Nat) : Int :=
 if 0 < i ∧ (sAt ss i).row ≤ (sAt ss (i - 1)).row then 17
 else if (sAt ss i).row < 0 ∨ R ≤ (sAt ss i).row ∨ (sAt ss i).col < 0 ∨ C ≤ (sAt ss i).col ∨ C - (sAt ss i).col < ((sAt ss i).cs.length : Int) then 5
 else if (sAt ss i).cs.length = 0 then 3 else 0
def errTo (f : Nat → Int) : Nat → Int
 | 0 => 0
 | k + 1 => if errTo f k = 0 then f k else errTo f k
theorem errTo_stays (f : Nat → Int) (k n : Nat) (hk : k ≤ n) (h : errTo f k ≠ 0) : errTo f n = errTo f k := by
 induction n with
 | zero => rw [show k = 0 by omega]
 | succ n ih =>
  by_cases hn : k = n + 1
  ·rw [hn]
  ·have := ih (by omega)
   simp only [errTo, this, if_neg h]
theorem errTo_first (f : Nat → Int) (k n : Nat) (hk : k < n) (h0 : errTo f k = 0) (h : f k ≠ 0) : errTo f n = f k := by
 have e : errTo f (k + 1) = f k := by simp only [errTo, h0, if_true]
 rw [errTo_stays f (k + 1) n (by omega) (by rw [e]; exact h), e]
theorem errTo_next (f : Nat → Int) (k : Nat) (h0 : errTo f k = 0) (h : f k = 0) : errTo f (k + 1) = 0 := by simp only [errTo, h0, if_true, h]
theorem errTo_zero {f : Nat → Int} {n : Nat} (h : errTo f n = 0) : ∀ i, i < n → f i = 0 := by
 induction n with
 | zero => intro i hi; omega
 | succ n ih =>
  have h0 : errTo f n = 0 := by
   by_cases q : errTo f n = 0
   ·exact q
   ·simp only [errTo, if_neg q] at h; exact absurd h q
  intro i hi
  by_cases q : i = n
  ·subst q; simpa only [errTo, h0, if_true] using h
  ·exact ih h0 i (by omega)
theorem errTo_of {f : Nat → Int} {n : Nat} (h : ∀ i, i < n → f i = 0) : errTo f n = 0 := by
 induction n with
 | zero => rfl
 | succ n ih => exact errTo_next f n (ih fun i hi => h i (by omega)) (h n (by omega))
def checkD (d : Df) : Int :=
 if ¬ sizeN d.rows d.cols then 11
 else if d.row < 0 ∨ d.rows ≤ d.row ∨ d.col < 0 ∨ d.cols ≤ d.col then 5
 else errTo (spE d.rows d.cols d.ss) d.ss.length
def overL (l : List Cel) (a : Nat) (cs : List Cel) : List Cel := tab l.length (fun i => if a ≤ i ∧ i < a + cs.length then cAt cs (i - a) else cAt l i)
theorem over_len (l : List Cel) (a : Nat) (cs : List Cel) : (overL l a cs).length = l.length := tab_len _ _
def overK (l : List Cel) (a : Nat) (cs : List Cel) (k : Nat) : List Cel := overL l a (cs.take k)
theorem cAt_take (l : List Cel) (k i : Nat) (h : i < k) : cAt (l.take k) i = cAt l i := by
 unfold cAt; rw [List.getD_eq_getElem?_getD, List.getD_eq_getElem?_getD, List.getElem?_take, if_pos h]
theorem cAt_drop (l : List Cel) (k i : Nat) : cAt (l.drop k) i = cAt l (k + i) := by
 unfold cAt; rw [List.getD_eq_getElem?_getD, List.getD_eq_getElem?_getD, List.getElem?_drop]
theorem over_0 (l : List Cel) (a : Nat) : overL l a [] = l := by
 unfold overL
 conv => rhs; rw [← tab_self l]
 exact tab_eq fun i _ => by rw [if_neg (by simp only [List.length_nil]; omega)]
theorem overK_0 (l : List Cel) (a : Nat) (cs : List Cel) : overK l a cs 0 = l := by unfold overK; rw [List.take_zero, over_0]
theorem overK_all (l : List Cel) (a : Nat) (cs : List Cel) (k : Nat) (h : cs.length ≤ k) : overK l a cs k = overL l a cs := by unfold overK; rw [List.take_of_length_le h]
theorem overK_next (l : List Cel) (a : Nat) (cs : List Cel) (k : Nat) (h : k < cs.length) : overK l a cs (k + 1) = (overK l a cs k).set (a + k) (cAt cs k) := by
 unfold overK overL
 rw [tab_set]
 refine tab_eq fun i hi => ?_
 rw [List.length_take, List.length_take, Nat.min_eq_left (by omega), Nat.min_eq_left (by omega)]
 by_cases h1 : i = a + k
 ·subst h1
  rw [if_pos (by omega), if_pos rfl, cAt_take _ _ _ (by omega)]
  congr 1; omega
 ·rw [if_neg h1]
  by_cases h2 : a ≤ i ∧ i < a + k
  ·rw [if_pos (by omega), if_pos h2, cAt_take _ _ _ (by omega), cAt_take _ _ _ (by omega)]
  ·rw [if_neg (by omega), if_neg h2]
def stepOk (C : Nat) (g : Gd) (s : Sp) : Bool := layOk g s.row (overL (lAt g.ls s.row.toNat) s.col.toNat s.cs) C
def stepD (C : Nat) (g : Gd) (s : Sp) : Gd := layG g s.row (overL (lAt g.ls s.row.toNat) s.col.toNat s.cs) C
def foldD (C : Nat) (g : Gd) (ss : List Sp) : Gd := ss.foldl (stepD C) g
def okD (C : Nat) : Gd → List Sp → Bool
 | _, [] => true
 | g, s :: t => stepOk C g s && okD C (stepD C g s) t
theorem fold_app (C : Nat) (g : Gd) (s t : List Sp) : foldD C g (s ++ t) = foldD C (foldD C g s) t := by unfold foldD; rw [List.foldl_append]
theorem ok_app (C : Nat) (g : Gd) (s t : List Sp) : okD C g (s ++ t) = (okD C g s && okD C (foldD C g s) t) := by
 induction s generalizing g with
 | nil => simp [okD, foldD]
 | cons a s ih => simp only [List.cons_append, okD, ih, foldD, List.foldl_cons, Bool.and_assoc]
theorem take_nextS (ss : List Sp) (k : Nat) (h : k < ss.length) : ss.take (k + 1) = ss.take k ++ [sAt ss k] := by
 rw [List.take_add_one, get_sAt ss k h]; rfl
theorem fold_next (C : Nat) (g : Gd) (ss : List Sp) (k : Nat) (h : k < ss.length) : foldD C g (ss.take (k + 1)) = stepD C (foldD C g (ss.take k)) (sAt ss k) := by
 rw [take_nextS ss k h, fold_app]; rfl
theorem ok_next (C : Nat) (g : Gd) (ss : List Sp) (k : Nat) (h : k < ss.length) (h0 : okD C g (ss.take k) = true) : okD C g (ss.take (k + 1)) = stepOk C (foldD C g (ss.take k)) (sAt ss k) := by
 rw [take_nextS ss k h, ok_app, h0]; simp [okD]
theorem ok_not (C : Nat) (g : Gd) (ss : List Sp) (k : Nat) (h : k < ss.length) (h0 : okD C g (ss.take k) = true) (h1 : stepOk C (foldD C g (ss.take k)) (sAt ss k) = false) : okD C g ss = false := by
 have e : ss = ss.take (k + 1) ++ ss.drop (k + 1) := (List.take_append_drop _ _).symm
 rw [e, ok_app, ok_next C g ss k h h0, h1]; rfl
def applyG (d : Df) (g : Gd) : Gd := moveG (foldD d.cols.toNat (fitG g d.rows.toNat d.cols.toNat) d.ss) d.row d.col d.cols.toNat
def applyE (d : Df) (g : Gd) : Int := if checkD d = 0 then (if okD d.cols.toNat (fitG g d.rows.toNat d.cols.toNat) d.ss = true then 0 else 3) else checkD d
def neAt (x y : List Cel) (i : Nat) : Bool := decide (cAt x i ≠ cAt y i)
def fstI (x y : List Cel) : Nat → Int
 | 0 => -1
 | k + 1 => if fstI x y k < 0 ∧ neAt x y k = true then (k : Int) else fstI x y k
def lstI (x y : List Cel) : Nat → Int
 | 0 => -1
 | k + 1 => if neAt x y k = true then (k : Int) else lstI x y k
theorem fl_is (x y : List Cel) (k : Nat) : (fstI x y k = -1 ∧ lstI x y k = -1 ∧ ∀ i, i < k → neAt x y i = false) ∨
  (∃ a b : Nat, fstI x y k = (a : Int) ∧ lstI x y k = (b : Int) ∧ a ≤ b ∧ b < k ∧ neAt x y a = true ∧ neAt x y b = true ∧ (∀ i, i < a → neAt x y i = false) ∧ ∀ i, b < i → i < k → neAt x y i = false) := by
 induction k with
 | zero => exact .inl ⟨rfl, rfl, fun i h => by omega⟩
 | succ k ih =>
  rcases ih with ⟨h1, h2, h3⟩ | ⟨a, b, h1, h2, h3, h4, h5, h6, h7, h8⟩
  ·cases q : neAt x y k with
   | false =>
    refine .inl ⟨by simp only [fstI, q]; simpa using h1, by simp only [lstI, q]; simpa using h2, fun i hi => ?_⟩
    by_cases e : i = k
    ·subst e; exact q
    ·exact h3 i (by omega)
   | true => exact .inr ⟨k, k, by simp only [fstI, q]; rw [if_pos ⟨by omega, trivial⟩], by simp only [lstI, q, if_true], by omega, by omega, q, q, h3, fun i h h' => by omega⟩
  ·cases q : neAt x y k with
   | false =>
    refine .inr ⟨a, b, by simp only [fstI, q]; simpa using h1, by simp only [lstI, q]; simpa using h2, h3, by omega, h5, h6, h7, fun i hi hi' => ?_⟩
    by_cases e : i = k
    ·subst e; exact q
    ·exact h8 i hi (by omega)
   | true => exact .inr ⟨a, k, by simp only [fstI, q]; rw [if_neg (by omega)]; exact h1, by simp only [lstI, q, if_true], by omega, by omega, h5, q, h7, fun i h h' => by omega⟩
def spanAt (x y : List Cel) (C : Nat) (r : Nat) : List Sp := if fstI x y C < 0 then [] else [⟨(r : Int), fstI x y C, (y.take ((lstI x y C).toNat + 1)).drop (fstI x y C).toNat⟩]
def spansTo (f b : List (List Cel)) (C : Nat) (k : Nat) : List Sp := (List.range k).flatMap fun r => spanAt (lAt f r) (lAt b r) C r
theorem spans_next (f b : List (List Cel)) (C k : Nat) : spansTo f b C (k + 1) = spansTo f b C k ++ spanAt (lAt f k) (lAt b k) C k := by
 unfold spansTo; rw [List.range_succ, List.flatMap_append]; simp
def ofD (a b : Gd) (R C : Nat) : Df := ⟨R, C, b.row, b.col, spansTo (fitG a R C).ls b.ls C R⟩
def cellsD (d : Df) : Nat := (d.ss.map fun s => s.cs.length).sum
theorem neAt_all {x y : List Cel} {C : Nat} (hx : x.length = C) (hy : y.length = C) (h : ∀ i, i < C → neAt x y i = false) : x = y := by
 rw [← tab_self x, ← tab_self y, hx, hy]
 refine tab_eq fun i hi => ?_
 simpa [neAt] using h i hi
theorem neAt_eq {x y : List Cel} {i : Nat} (h : neAt x y i = false) : cAt x i = cAt y i := by simpa [neAt] using h
theorem over_span {x y : List Cel} {C a b : Nat} (hx : x.length = C) (hy : y.length = C) (hb : b < C) (hab : a ≤ b) (h1 : ∀ i, i < a → neAt x y i = false) (h2 : ∀ i, b < i → i < C → neAt x y i = false) :
  overL x a ((y.take (b + 1)).drop a) = y := by
 unfold overL
 rw [List.length_drop, List.length_take, hy, Nat.min_eq_left (by omega)]
 conv => rhs; rw [← tab_self y]
 rw [hx, hy]
 refine tab_eq fun i hi => ?_
 by_cases h : a ≤ i ∧ i < a + (b + 1 - a)
 ·rw [if_pos h, cAt_drop, cAt_take _ _ _ (by omega)]; congr 1; omega
 ·rw [if_neg h]
  by_cases q : i < a
  ·exact neAt_eq (h1 i q)
  ·exact neAt_eq (h2 i (by omega) hi)
structure SpOk (x y : List Cel) (C r : Nat) (s : Sp) : Prop where
 row : s.row = (r : Int)
 ex : ∃ a b : Nat, s.col = (a : Int) ∧ a ≤ b ∧ b < C ∧ s.cs = (y.take (b + 1)).drop a ∧ neAt x y a = true ∧ neAt x y b = true ∧ overL x a s.cs = y
theorem span_cases {x y : List Cel} {C : Nat} (r : Nat) (hx : x.length = C) (hy : y.length = C) : (spanAt x y C r = [] ∧ x = y) ∨ (x ≠ y ∧ ∃ s, spanAt x y C r = [s] ∧ SpOk x y C r s) := by
 unfold spanAt
 rcases fl_is x y C with ⟨h1, h2, h3⟩ | ⟨a, b, h1, h2, h3, h4, h5, h6, h7, h8⟩
 ·exact .inl ⟨by rw [if_pos (by omega)], neAt_all hx hy h3⟩
 ·refine .inr ⟨fun e => ?_, _, by rw [if_neg (by omega)], rfl, a, b, h1, h3, h4, ?_, h5, h6, ?_⟩
  ·subst e; simp [neAt] at h5
  ·rw [h1, h2]; rfl
  ·show overL x a ((y.take ((lstI x y C).toNat + 1)).drop (fstI x y C).toNat) = y
   rw [h1, h2]
   exact over_span hx hy h4 h3 h7 h8
theorem lay_is {g : Gd} {C k : Nat} {l : List Cel} (hk : k < g.ls.length) (hl : l.length = C) (hr : rightL l = true) : layOk g (k : Int) l C = true ∧ layG g (k : Int) l C = { g with ls := g.ls.set k l } := by
 have h1 : layOk g (k : Int) l C = true := by
  unfold layOk
  simp only [Bool.and_eq_true, decide_eq_true_iff]
  exact ⟨⟨by omega, by omega⟩, hl, hr⟩
 exact ⟨h1, by unfold layG; rw [if_pos h1]; rfl⟩
theorem lay_self (g : Gd) (r : Int) (C : Nat) (l : List Cel) (h : l = lAt g.ls r.toNat) : layG g r l C = g := by
 unfold layG
 split
 ·rw [h, set_same]
 ·rfl
theorem take_fold {f b : Gd} {R C : Nat} (hf : GOk f R C) (hb : GOk b R C) (k : Nat) (hk : k ≤ R) :
  okD C f (spansTo f.ls b.ls C k) = true ∧ foldD C f (spansTo f.ls b.ls C k) = ⟨gtab R fun i => if i < k then lAt b.ls i else lAt f.ls i, f.row, f.col⟩ := by
 induction k with
 | zero =>
  refine ⟨rfl, ?_⟩
  show f = _
  have e : gtab R (fun i => if i < 0 then lAt b.ls i else lAt f.ls i) = f.ls := by
   rw [← gtab_self f.ls, hf.len]
   exact gtab_eq fun i hi => by rw [if_neg (by omega), gtab_lAt _ _ _ (by omega)]
  rw [e]
 | succ k ih =>
  obtain ⟨i1, i2⟩ := ih (by omega)
  have hx := (hf.each k (by omega)).1
  have hy := hb.each k (by omega)
  have eL : lAt (gtab R fun i => if i < k then lAt b.ls i else lAt f.ls i) k = lAt f.ls k := by rw [gtab_lAt _ _ _ (by omega), if_neg (by omega)]
  have eq1 : lAt f.ls k = lAt b.ls k → gtab R (fun i => if i < k + 1 then lAt b.ls i else lAt f.ls i) = gtab R (fun i => if i < k then lAt b.ls i else lAt f.ls i) := fun e => gtab_eq fun i hi => by
   by_cases q : i = k
   ·subst q; rw [if_pos (by omega), if_neg (by omega), e]
   ·by_cases q2 : i < k
    ·rw [if_pos (by omega), if_pos q2]
    ·rw [if_neg (by omega), if_neg q2]
  rw [spans_next]
  rcases span_cases k hx hy.1 with ⟨h1, h2⟩ | ⟨h2, s, h1, h3⟩
  ·rw [h1, List.append_nil, eq1 h2]
   exact ⟨i1, i2⟩
  ·obtain ⟨a, b', h4, h5, h6, h7, h8, h9, h10⟩ := h3.ex
   have eo : overL (lAt (foldD C f (spansTo f.ls b.ls C k)).ls s.row.toNat) s.col.toNat s.cs = lAt b.ls k := by
    rw [i2, h3.row, h4]
    show overL (lAt (gtab R fun i => if i < k then lAt b.ls i else lAt f.ls i) k) a s.cs = _
    rw [eL, h10]
   have hl := lay_is (g := foldD C f (spansTo f.ls b.ls C k)) (C := C) (k := k) (l := lAt b.ls k) (by rw [i2]; show k < (gtab R _).length; rw [gtab_len]; omega) hy.1 hy.2.1
   rw [h1]
   refine ⟨?_, ?_⟩
   ·rw [ok_app, i1]
    simp only [okD, stepOk, Bool.and_true, Bool.true_and]
    rw [eo, h3.row]; exact hl.1
   ·rw [fold_app]
    show stepD C (foldD C f (spansTo f.ls b.ls C k)) s = _
    unfold stepD
    rw [eo, h3.row, hl.2, i2]
    congr 1
    rw [set_gtab, gtab_len]
    refine gtab_eq fun i hi => ?_
    by_cases q : i = k
    ·subst q; rw [if_pos rfl, if_pos (by omega)]
    ·rw [if_neg q, gtab_lAt _ _ _ hi]
     by_cases q2 : i < k
     ·rw [if_pos q2, if_pos (by omega)]
     ·rw [if_neg q2, if_neg (by omega)]
theorem fold_all {f b : Gd} {R C : Nat} (hf : GOk f R C) (hb : GOk b R C) : okD C f (spansTo f.ls b.ls C R) = true ∧ foldD C f (spansTo f.ls b.ls C R) = ⟨b.ls, f.row, f.col⟩ := by
 have h := take_fold hf hb R (Nat.le_refl R)
 have e : gtab R (fun i => if i < R then lAt b.ls i else lAt f.ls i) = b.ls := by
  rw [← gtab_self b.ls, hb.len]
  exact gtab_eq fun i hi => by rw [if_pos hi, gtab_lAt _ _ _ hi]
 rw [e] at h; exact h
theorem spans_mem {f b : Gd} {R C : Nat} (hf : GOk f R C) (hb : GOk b R C) {k : Nat} (hk : k ≤ R) {s : Sp} (h : s ∈ spansTo f.ls b.ls C k) : ∃ r, r < k ∧ SpOk (lAt f.ls r) (lAt b.ls r) C r s := by
 unfold spansTo at h
 rw [List.mem_flatMap] at h
 obtain ⟨r, h1, h2⟩ := h
 rw [List.mem_range] at h1
 rcases span_cases r (hf.each r (by omega)).1 (hb.each r (by omega)).1 with ⟨h3, _⟩ | ⟨_, s', h3, h4⟩
 ·rw [h3] at h2; cases h2
 ·rw [h3, List.mem_singleton] at h2
  subst h2
  exact ⟨r, h1, h4⟩
theorem spans_pair {f b : Gd} {R C : Nat} (hf : GOk f R C) (hb : GOk b R C) (k : Nat) (hk : k ≤ R) : (spansTo f.ls b.ls C k).Pairwise (fun s t => s.row < t.row) := by
 induction k with
 | zero => exact List.Pairwise.nil
 | succ k ih =>
  rw [spans_next, List.pairwise_append]
  refine ⟨ih (by omega), ?_, fun s hs t ht => ?_⟩
  ·rcases span_cases k (hf.each k (by omega)).1 (hb.each k (by omega)).1 with ⟨h3, _⟩ | ⟨_, s', h3, h4⟩
   ·rw [h3]; exact List.Pairwise.nil
   ·rw [h3]; exact List.pairwise_singleton _ _
  ·obtain ⟨r, h1, h2⟩ := spans_mem hf hb (by omega) hs
   rcases span_cases k (hf.each k (by omega)).1 (hb.each k (by omega)).1 with ⟨h3, _⟩ | ⟨_, s', h3, h4⟩
   ·rw [h3] at ht; cases ht
   ·rw [h3, List.mem_singleton] at ht
    subst ht
    rw [h2.row, h4.row]; omega
theorem spans_nil {f b : Gd} {R C : Nat} (hf : GOk f R C) (hb : GOk b R C) : spansTo f.ls b.ls C R = [] ↔ f.ls = b.ls := by
 constructor
 ·intro h
  have := (fold_all hf hb).2
  rw [h] at this
  simp only [foldD, List.foldl_nil] at this
  rw [this]
 ·intro h
  unfold spansTo
  rw [h, List.flatMap_eq_nil_iff]
  intro r hr
  rw [List.mem_range] at hr
  rcases span_cases r (hb.each r hr).1 (hb.each r hr).1 with ⟨h3, _⟩ | ⟨h3, _⟩
  ·exact h3
  ·exact absurd rfl h3
theorem sp_len {x y : List Cel} {C r : Nat} {s : Sp} (h : SpOk x y C r s) (hy : y.length = C) : 1 ≤ s.cs.length ∧ 0 ≤ s.col ∧ s.col + (s.cs.length : Int) ≤ (C : Int) := by
 obtain ⟨a, b, h1, h2, h3, h4, _⟩ := h.ex
 rw [h4, h1, List.length_drop, List.length_take, hy, Nat.min_eq_left (by omega)]
 omega
theorem mem_sAt (l : List Sp) (i : Nat) (h : i < l.length) : sAt l i ∈ l := by
 have := get_sAt l i h
 exact List.mem_of_getElem? this
theorem check_of {f b : Gd} {R C : Nat} (hf : GOk f R C) (hb : GOk b R C) (row col : Nat) (hr : row < R) (hc : col < C) : checkD ⟨R, C, row, col, spansTo f.ls b.ls C R⟩ = 0 := by
 have r1 := hb.r1; have r2 := hb.r2; have c1 := hb.c1; have c2 := hb.c2
 unfold checkD
 rw [if_neg (by unfold sizeN; simp only; omega), if_neg (by simp only; omega)]
 refine errTo_of fun i hi => ?_
 simp only at hi ⊢
 obtain ⟨r, h1, h2⟩ := spans_mem hf hb (Nat.le_refl R) (mem_sAt _ i hi)
 obtain ⟨h3, h4, h5⟩ := sp_len h2 (hb.each r h1).1
 have h6 := h2.row
 unfold spE
 rw [if_neg, if_neg (by omega), if_neg (by omega)]
 rintro ⟨q1, q2⟩
 have hp := spans_pair hf hb R (Nat.le_refl R)
 rw [List.pairwise_iff_getElem] at hp
 have := hp (i - 1) i (by omega) hi (by omega)
 have e1 := get_sAt _ (i - 1) (show i - 1 < (spansTo f.ls b.ls C R).length by omega)
 have e2 := get_sAt _ i hi
 rw [List.getElem?_eq_getElem (by omega)] at e1 e2
 simp only [Option.some.injEq] at e1 e2
 rw [e1, e2] at this
 omega
theorem GOk.fold {C R : Nat} (ss : List Sp) {g : Gd} (h : GOk g R C) (hl : ∀ s, s ∈ ss → LB s.cs) : GOk (foldD C g ss) R C := by
 induction ss generalizing g with
 | nil => exact h
 | cons s t ih =>
  refine ih (g := stepD C g s) ?_ fun x hx => hl x (List.mem_cons_of_mem _ hx)
  unfold stepD
  by_cases q : layOk g s.row (overL (lAt g.ls s.row.toNat) s.col.toNat s.cs) C = true
  ·refine h.lay _ _ ?_
   unfold overL
   refine LB_tab fun i hi => ?_
   have hs := hl s (List.mem_cons_self ..)
   split
   ·rename_i q2
    exact hs _ (by omega)
   ·unfold layOk at q
    simp only [Bool.and_eq_true, decide_eq_true_iff] at q
    have := h.each _ (h.at q.1)
    exact this.2.2 _ hi
  ·unfold layG; rw [if_neg q]; exact h
theorem apply_of {a b : Gd} {R' C' R C : Nat} (ha : GOk a R' C') (hb : GOk b R C) : checkD (ofD a b R C) = 0 ∧ applyE (ofD a b R C) a = 0 ∧ applyG (ofD a b R C) a = b := by
 have hf := ha.fit hb.r1 hb.r2 hb.c1 hb.c2
 have h0 : checkD (ofD a b R C) = 0 := check_of hf hb b.row b.col hb.row hb.col
 obtain ⟨h1, h2⟩ := fold_all hf hb
 refine ⟨h0, ?_, ?_⟩
 ·unfold applyE
  rw [if_pos h0]
  show (if okD C (fitG a R C) (spansTo (fitG a R C).ls b.ls C R) = true then (0 : Int) else 3) = 0
  rw [if_pos h1]
 ·unfold applyG
  show moveG (foldD C (fitG a R C) (spansTo (fitG a R C).ls b.ls C R)) b.row b.col C = b
  rw [h2]
  unfold moveG
  simp only
  rw [hb.len, nearN_self _ _ hb.row, nearN_self _ _ hb.col]
theorem fit_same {l : List Cel} {C : Nat} (h : l.length = C) (hC : C ≤ 512) (hr : rightL l = true) : fitC l (C : Int) = l := by
 have e : fitTab l (C : Int) = l := by
  unfold fitTab
  conv => rhs; rw [← tab_self l]
  rw [show lenN (C : Int) = l.length by unfold lenN; omega]
  exact tab_eq fun i hi => by rw [if_pos hi]
 unfold fitC
 rw [e, mend_right hr]
theorem fit_is {a : Gd} {R C : Nat} (ha : GOk a R C) : fitG a R C = a := by
 unfold fitG
 rw [nearN_self _ _ ha.row, nearN_self _ _ ha.col]
 have e : gtab R (fitAtG a.ls C) = a.ls := by
  rw [← gtab_self a.ls, ha.len]
  refine gtab_eq fun i hi => ?_
  rw [fitAtG_is, gtab_lAt _ _ _ hi]
  exact fit_same (ha.each i hi).1 ha.c2 (ha.each i hi).2.1
 rw [e]
theorem of_self {b : Gd} {R C : Nat} (hb : GOk b R C) : (ofD b b R C).ss = [] := by
 show spansTo (fitG b R C).ls b.ls C R = []
 rw [fit_is hb]
 exact (spans_nil hb hb).2 rfl
theorem sum_le (l : List Sp) (C : Nat) (h : ∀ s, s ∈ l → s.cs.length ≤ C) : (l.map fun s => s.cs.length).sum ≤ l.length * C := by
 induction l with
 | nil => simp
 | cons a t ih =>
  have h1 := h a (List.mem_cons_self ..)
  have h2 := ih fun s hs => h s (List.mem_cons_of_mem _ hs)
  simp only [List.map_cons, List.sum_cons, List.length_cons, Nat.add_mul, Nat.one_mul]
  omega
theorem spans_len {f b : Gd} {R C : Nat} (hf : GOk f R C) (hb : GOk b R C) (k : Nat) (hk : k ≤ R) : (spansTo f.ls b.ls C k).length ≤ k := by
 induction k with
 | zero => exact Nat.le_refl 0
 | succ k ih =>
  rw [spans_next, List.length_append]
  have := ih (by omega)
  rcases span_cases k (hf.each k (by omega)).1 (hb.each k (by omega)).1 with ⟨h3, _⟩ | ⟨_, s', h3, h4⟩ <;> rw [h3] <;> simp <;> omega
theorem cells_le {a b : Gd} {R' C' R C : Nat} (ha : GOk a R' C') (hb : GOk b R C) : cellsD (ofD a b R C) ≤ R * C := by
 have hf := ha.fit hb.r1 hb.r2 hb.c1 hb.c2
 refine Nat.le_trans (sum_le _ C fun s hs => ?_) (Nat.mul_le_mul_right C (spans_len hf hb R (Nat.le_refl R)))
 obtain ⟨r, h1, h2⟩ := spans_mem hf hb (Nat.le_refl R) hs
 have := sp_len h2 (hb.each r h1).1
 omega
section
open Go.ChangeShapes Go.WideShapes Go.ChangeAt Go.RowKit
def LineIn (w : World) (A : Option Addr) (len cap : Nat) (cs : List Cel) : Prop := Cels .i32 w A cs ∧ len ≤ cs.length ∧ len ≤ cap ∧ (A = none → cap = 0) ∧ LB cs
theorem LB_take {cs : List Cel} (h : LB cs) (n : Nat) : LB (cs.take n) := by
 intro i hi
 rw [List.length_take] at hi
 have : cAt (cs.take n) i = cAt cs i := by unfold cAt; simp [show i < n by omega]
 rw [this]
 exact h i (by omega)
end
end Go.Proofs.YtoddfaoifnkhlaaGreatDoor
