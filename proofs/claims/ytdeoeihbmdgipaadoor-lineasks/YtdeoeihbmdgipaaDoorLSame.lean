/-
  Contracts: are lines the same, cell by cell (both).
-/
import Derived.Test.YtdeoeihbmdgipaaDoorLOwn
namespace Go.Proofs.YtdeoeihbmdgipaaDoor
open Go.ChangeShapes Go.WideShapes Go.ChangeAt Go.RowKit
set_option linter.unusedVariables false

theorem neqCell (W : World) (r m n w f g b r' m' n' w' f' g' b' : Int) :
    (binOp .neq 27 (.agg #[.int .i32 r, .int .i32 m, .int .i32 n, .int .u8 w, .int .u8 f, .int .u8 g, .int .u8 b]) (.agg #[.int .i32 r', .int .i32 m', .int .i32 n', .int .u8 w', .int .u8 f', .int .u8 g', .int .u8 b'])).run Tryd.prog W = .ok (.bool (!(eqC r m n w f g b r' m' n' w' f' g' b'))) W := by
  rw [run_neq_struct, equalCell 9997]; rfl
theorem neqC (W : World) (r m n w f g b r' m' n' w' f' g' b' : Int) :
    (binOp .neq 38 (.agg #[.int .i64 r, .int .i64 m, .int .i64 n, .int .u8 w, .int .u8 f, .int .u8 g, .int .u8 b]) (.agg #[.int .i64 r', .int .i64 m', .int .i64 n', .int .u8 w', .int .u8 f', .int .u8 g', .int .u8 b'])).run Tryd.prog W = .ok (.bool (!(eqC r m n w f g b r' m' n' w' f' g' b'))) W := by
  rw [run_neq_struct, equalC 9997]; rfl
theorem neqP (W : World) (f g b f' g' b' : Int) :
    (binOp .neq 36 (.agg #[.int .u8 f, .int .u8 g, .int .u8 b]) (.agg #[.int .u8 f', .int .u8 g', .int .u8 b'])).run Tryd.prog W = .ok (.bool (!(eqP f g b f' g' b'))) W := by
  rw [run_neq_struct, equalP 36 Tryd.underlying36 (by kernel_rfl) fieldsP 9998]; rfl
theorem eqC_cel (r m x : Int) (d f y b : Nat) (r' m' x' : Int) (d' f' y' b' : Nat) : eqC r m x (d : Int) (f : Int) (y : Int) (b : Int) r' m' x' (d' : Int) (f' : Int) (y' : Int) (b' : Int) = decide ((⟨r, m, x, d, ⟨f, y, b⟩⟩ : Cel) = ⟨r', m', x', d', ⟨f', y', b'⟩⟩) := by
  rw [eqC_iff, Bool.eq_iff_iff, decide_eq_true_iff, decide_eq_true_iff]
  simp only [Cel.mk.injEq, Pn.mk.injEq, Int.ofNat_inj]
theorem eqP_pen (f y b f' y' b' : Nat) : eqP (f : Int) (y : Int) (b : Int) (f' : Int) (y' : Int) (b' : Int) = decide ((⟨f, y, b⟩ : Pn) = ⟨f', y', b'⟩) := by
  unfold eqP
  rw [Bool.eq_iff_iff, decide_eq_true_iff]
  simp only [Bool.and_eq_true, beq_iff_eq, Pn.mk.injEq, Int.ofNat_inj]
theorem take_cel (a b : List Cel) (k : Nat) (ha : k < a.length) (hb : k < b.length) (h : a.take k = b.take k) (e : cAt a k = cAt b k) : a.take (k + 1) = b.take (k + 1) := by
  rw [List.take_succ_eq_append_getElem ha, List.take_succ_eq_append_getElem hb, h]
  have h1 : a[k] = cAt a k := Option.some.inj ((List.getElem?_eq_getElem ha).symm.trans (get_cAt a k ha))
  have h2 : b[k] = cAt b k := Option.some.inj ((List.getElem?_eq_getElem hb).symm.trans (get_cAt b k hb))
  rw [h1, h2, e]
set_option maxRecDepth 100000 in
set_option maxHeartbeats 2000000 in
theorem equal_any (A C : Option Addr) (n c m d : Nat) (xs ys : List Cel) (w : World) (ha : Cels .i32 w A xs) (hb : Cels .i32 w C ys) (hn : xs.length = n) (hm : ys.length = m) (hl : n ≤ 1000000) :
    Calls Tryd.prog 50 #[.slice A n c, .slice C m d] w (Said (decide (xs = ys)) w) := by
  have nC := @neqCell
  have HN := hide hn
  have HM := hide hm
  have HA := hide ha
  have HC := hide hb
  by_cases hnm : n = m
  · have en : ((n : Int) != (m : Int)) = false := by simp; omega
    clear hn hm ha hb
    go_enter Tryd.func50, Tryd.ntmps50
    go_wp2
    go_loopw [5, 13] (fun _ i wr => ∃ k : Nat, k ≤ n ∧ i = .int .i64 k ∧ Hid (xs.take k = ys.take k) ∧ Below w.heap.size w wr) (fun _ i _ => n - (intOf i).toNat)
    case atStart => exact ⟨0, Nat.zero_le _, rfl, (by unfold Hid; simp), Below.refl _ _⟩
    case round =>
      obtain ⟨k, hk, rfl, ht, hbel⟩ := hrel
      have HB := hide hbel
      clear hbel
      by_cases hlt : k < n
      · obtain ⟨b1, o1, rfl, l1, -⟩ := HA.out.at (i := k) (by rw [HN.out]; exact hlt)
        obtain ⟨b2, o2, rfl, l2, -⟩ := HC.out.at (i := k) (by rw [HM.out]; omega)
        by_cases he : cAt xs k = cAt ys k
        · have HT := hide (take_cel xs ys k (by rw [HN.out]; exact hlt) (by rw [HM.out]; omega) ht.out he)
          obtain ⟨⟨r, x, y, z, ⟨f, g, b⟩⟩, hc⟩ : ∃ q, cAt xs k = q := ⟨_, rfl⟩
          have hc2 := he.symm.trans hc
          obtain ⟨u0, u1, u2, u3, u4, u5, u6, -⟩ := (HA.out.below HB.out).sevenC k (by rw [HN.out]; exact hlt) hc
          obtain ⟨v0, v1, v2, v3, v4, v5, v6, -⟩ := (HC.out.below HB.out).sevenC k (by rw [HM.out]; omega) hc2
          have hq := eqC_self r x y (z : Int) (f : Int) (g : Int) (b : Int)
          clear hc hc2 he ht
          go_wp2
          go_quiet (fail)
          go_wp2
          go_roundw
          case rel => exact ⟨k + 1, by omega, by go_num, HT, HB.out.drewN _⟩
          case measure => simp [intOf]; omega
        · have HF : Hid (decide (xs = ys) = false) := by unfold Hid; exact decide_eq_false (fun q => he (by rw [q]))
          obtain ⟨⟨r, x, y, z, ⟨f, g, b⟩⟩, hc⟩ : ∃ q, cAt xs k = q := ⟨_, rfl⟩
          obtain ⟨⟨r', x', y', z', ⟨f', g', b'⟩⟩, hc2⟩ : ∃ q, cAt ys k = q := ⟨_, rfl⟩
          rw [hc, hc2] at he
          obtain ⟨u0, u1, u2, u3, u4, u5, u6, -⟩ := (HA.out.below HB.out).sevenC k (by rw [HN.out]; exact hlt) hc
          obtain ⟨v0, v1, v2, v3, v4, v5, v6, -⟩ := (HC.out.below HB.out).sevenC k (by rw [HM.out]; omega) hc2
          have hq : eqC r x y (z : Int) (f : Int) (g : Int) (b : Int) r' x' y' (z' : Int) (f' : Int) (g' : Int) (b' : Int) = false := by rw [eqC_cel]; exact decide_eq_false he
          clear hc hc2 he ht
          go_wp2
          go_quiet (fail)
          go_wp2
          go_ret
          exact ⟨ret_bool HF.out.symm, HB.out.drewN _⟩
      · have HF : Hid (decide (xs = ys) = true) := by
          unfold Hid
          refine decide_eq_true ?_
          have q := ht.out
          rwa [List.take_of_length_le (by rw [HN.out]; omega), List.take_of_length_le (by rw [HM.out]; omega)] at q
        clear ht
        go_wp2
        go_ret
        exact ⟨ret_bool HF.out.symm, HB.out⟩
  · have en : ((n : Int) != (m : Int)) = true := by simp; omega
    have HF : Hid (decide (xs = ys) = false) := by unfold Hid; exact decide_eq_false (fun q => hnm (by rw [← hn, ← hm, q]))
    clear hn hm ha hb hnm
    go_enter Tryd.func50, Tryd.ntmps50
    go_wp2
    go_ret
    exact ⟨ret_bool HF.out.symm, Below.refl _ _⟩
set_option maxRecDepth 100000 in
set_option maxHeartbeats 2000000 in
theorem rsame6_any (A C : Option Addr) (n c m d : Nat) (xs ys : List Cel) (w : World) (ha : Cels .i64 w A xs) (hb : Cels .i64 w C ys) (hn : xs.length = n) (hm : ys.length = m) (hl : n ≤ 1000000) :
    Calls Tryd.prog 27 #[.slice A n c, .slice C m d] w (Said (decide (xs = ys)) w) := by
  have nC := @neqC
  have HN := hide hn
  have HM := hide hm
  have HA := hide ha
  have HC := hide hb
  by_cases hnm : n = m
  · have en : ((n : Int) != (m : Int)) = false := by simp; omega
    clear hn hm ha hb
    go_enter Tryd.func27, Tryd.ntmps27
    go_wp2
    go_loopw [5] (fun i wr => ∃ k : Nat, k ≤ n ∧ i = .int .i64 k ∧ Hid (xs.take k = ys.take k) ∧ Below w.heap.size w wr) (fun i _ => n - (intOf i).toNat)
    case atStart => exact ⟨0, Nat.zero_le _, rfl, (by unfold Hid; simp), Below.refl _ _⟩
    case round =>
      obtain ⟨k, hk, rfl, ht, hbel⟩ := hrel
      have HB := hide hbel
      clear hbel
      by_cases hlt : k < n
      · obtain ⟨b1, o1, rfl, l1, -⟩ := HA.out.at (i := k) (by rw [HN.out]; exact hlt)
        obtain ⟨b2, o2, rfl, l2, -⟩ := HC.out.at (i := k) (by rw [HM.out]; omega)
        by_cases he : cAt xs k = cAt ys k
        · have HT := hide (take_cel xs ys k (by rw [HN.out]; exact hlt) (by rw [HM.out]; omega) ht.out he)
          obtain ⟨⟨r, x, y, z, ⟨f, g, b⟩⟩, hc⟩ : ∃ q, cAt xs k = q := ⟨_, rfl⟩
          have hc2 := he.symm.trans hc
          obtain ⟨u0, u1, u2, u3, u4, u5, u6, -⟩ := (HA.out.below HB.out).sevenC k (by rw [HN.out]; exact hlt) hc
          obtain ⟨v0, v1, v2, v3, v4, v5, v6, -⟩ := (HC.out.below HB.out).sevenC k (by rw [HM.out]; omega) hc2
          have hq := eqC_self r x y (z : Int) (f : Int) (g : Int) (b : Int)
          clear hc hc2 he ht
          go_wp2
          go_quiet (fail)
          go_wp2
          go_roundw
          case rel => exact ⟨k + 1, by omega, by go_num, HT, HB.out.drewN _⟩
          case measure => simp [intOf]; omega
        · have HF : Hid (decide (xs = ys) = false) := by unfold Hid; exact decide_eq_false (fun q => he (by rw [q]))
          obtain ⟨⟨r, x, y, z, ⟨f, g, b⟩⟩, hc⟩ : ∃ q, cAt xs k = q := ⟨_, rfl⟩
          obtain ⟨⟨r', x', y', z', ⟨f', g', b'⟩⟩, hc2⟩ : ∃ q, cAt ys k = q := ⟨_, rfl⟩
          rw [hc, hc2] at he
          obtain ⟨u0, u1, u2, u3, u4, u5, u6, -⟩ := (HA.out.below HB.out).sevenC k (by rw [HN.out]; exact hlt) hc
          obtain ⟨v0, v1, v2, v3, v4, v5, v6, -⟩ := (HC.out.below HB.out).sevenC k (by rw [HM.out]; omega) hc2
          have hq : eqC r x y (z : Int) (f : Int) (g : Int) (b : Int) r' x' y' (z' : Int) (f' : Int) (g' : Int) (b' : Int) = false := by rw [eqC_cel]; exact decide_eq_false he
          clear hc hc2 he ht
          go_wp2
          go_quiet (fail)
          go_wp2
          go_ret
          exact ⟨ret_bool HF.out.symm, HB.out.drewN _⟩
      · have HF : Hid (decide (xs = ys) = true) := by
          unfold Hid
          refine decide_eq_true ?_
          have q := ht.out
          rwa [List.take_of_length_le (by rw [HN.out]; omega), List.take_of_length_le (by rw [HM.out]; omega)] at q
        clear ht
        go_wp2
        go_ret
        exact ⟨ret_bool HF.out.symm, HB.out⟩
  · have en : ((n : Int) != (m : Int)) = true := by simp; omega
    have HF : Hid (decide (xs = ys) = false) := by unfold Hid; exact decide_eq_false (fun q => hnm (by rw [← hn, ← hm, q]))
    clear hn hm ha hb hnm
    go_enter Tryd.func27, Tryd.ntmps27
    go_wp2
    go_ret
    exact ⟨ret_bool HF.out.symm, Below.refl _ _⟩
set_option maxRecDepth 100000 in
theorem same6_any (A C : Option Addr) (n c m d : Nat) (xs ys : List Cel) (w : World) (ha : Cels .i32 w A xs) (hb : Cels .i32 w C ys) (hn : xs.length = n) (hm : ys.length = m) (hl : n ≤ 1000000) :
    Calls Tryd.prog 26 #[.slice A n c, .slice C m d] w (Said (decide (xs = ys)) w) := by
  have HN := hide hn
  have HM := hide hm
  have HA := hide ha
  have HC := hide hb
  clear hn hm ha hb
  go_enter Tryd.func26, Tryd.ntmps26
  go_wp2_with fail
  refine (equal_any A C n c m d xs ys w HA.out HC.out HN.out HM.out hl).mono ?_
  rintro e w1 ⟨rfl, hb⟩
  go_wp2
  go_ret
  exact ⟨rfl, hb⟩
end Go.Proofs.YtdeoeihbmdgipaaDoor
