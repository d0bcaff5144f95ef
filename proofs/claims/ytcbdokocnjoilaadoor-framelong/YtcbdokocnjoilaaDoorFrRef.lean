/-
  Contract: the frame of bytes (the document's Parse).
-/
import Derived.Test.YtcbdokocnjoilaaDoorFrLaw
import Derived.Test.YtcbdokocnjoilaaDoorFmShift
import Derived.Test.YtcbdokocnjoilaaDoorB20
import Derived.Deep.DeepCutAuto
import Derived.Deep.CutRange
namespace Go.Proofs.YtcbdokocnjoilaaDoor
set_option maxRecDepth 100000
open Go.ChangeShapes Go.WideShapes Go.ChangeAt Go.RowKit
set_option linter.unusedVariables false

/-- What the document's Parse leaves. -/
def ParseFN (w : World) (x : Fm × Int) (e : Ending) (w' : World) : Prop :=
  ∃ A c, e = .returned (.tuple #[.agg #[.int .u64 x.1.num, .int .u64 x.1.base, .int .u64 x.1.echo, .int .u64 x.1.stamp, .int .i64 x.1.d.rows, .int .i64 x.1.d.cols, .int .i64 x.1.d.row, .int .i64 x.1.d.col, .slice A x.1.d.ss.length c], .int .i64 x.2]) ∧ DfOk 0 81 118 .i64 w' x.1.d A c ∧ Below w.heap.size w w'
set_option maxHeartbeats 8000000 in
theorem rfrparse_any (A : Option Addr) (n c : Nat) (xs : List Int) (w : World) (h : Ints .u8 w A xs) (hn : xs.length = n) (hnc : n ≤ c) (hlen : n ≤ 1000000) (hb : Byte xs) :
    Calls Tryd.prog 7 #[.slice A n c] w (ParseFN w (parseFm xs)) := by
  obtain ⟨W0, hW0⟩ : ∃ W0, w.alloc (.cells #[.int .u64 0, .int .u64 0, .int .u64 0, .int .u64 0, .int .i64 0, .int .i64 0, .int .i64 0, .int .i64 0, .slice none 0 0] 36) = W0 := ⟨_, rfl⟩
  have HB0 : Hid (Below w.heap.size w W0) := by unfold Hid; rw [← hW0]; exact new1W _ _
  have HP0 : Hid (Whole W0 w.heap.size 36 [.int .u64 0, .int .u64 0, .int .u64 0, .int .u64 0, .int .i64 0, .int .i64 0, .int .i64 0, .int .i64 0, .slice none 0 0]) := by unfold Hid; rw [← hW0]; exact Whole.new w 36 [.int .u64 0, .int .u64 0, .int .u64 0, .int .u64 0, .int .i64 0, .int .i64 0, .int .i64 0, .int .i64 0, .slice none 0 0]
  have HI := hide h
  have HN := hide hn
  have HW0 := hide hW0
  obtain ⟨q1, hq1⟩ : ∃ q, decide ((65536 : Int) < (n : Int)) = q := ⟨_, rfl⟩
  clear h hn hW0
  cases q1 with
  | true =>
    go_enter Tryd.func7, Tryd.ntmps7
    have HP : Hid (parseFm xs = (zeroFm, 2)) := by unfold Hid parseFm; rw [if_pos (by rw [HN.out]; have := of_decide_eq_true hq1; omega)]
    obtain ⟨z0, z1, z2, z3, z4, z5, z6, z7, z8, lz⟩ := cells9 HP0.out
    have zz := HP0.out.frozen
    have HB9 := hide (below_put9 HB0.out (Nat.le_refl _) (.int .u64 0) (.int .u64 0) (.int .u64 0) (.int .u64 0) (.int .i64 0) (.int .i64 0) (.int .i64 0) (.int .i64 0) (.slice none 0 0))
    have HP9 := hide (put9 HP0.out (.int .u64 0) (.int .u64 0) (.int .u64 0) (.int .u64 0) (.int .i64 0) (.int .i64 0) (.int .i64 0) (.int .i64 0) (.slice none 0 0))
    go_upto_region 1 with fail
    rw [HW0.out]
    go_wp2
    refine ret92 Tryd.results7 (.inr rfl) rfl rfl rfl HP9.out ?_
    rw [HP.out]
    exact ⟨none, 0, rfl, ⟨.nil, Nat.le_refl _, fun _ => rfl, Nat.zero_le _⟩, HB9.out⟩
  | false =>
    have hq0 : n ≤ 65536 := by have := of_decide_eq_false hq1; omega
    cases xs with
    | nil =>
      have hn0 : n = 0 := by rw [← HN.out]; rfl
      subst hn0
      clear hq1 hq0
      go_enter Tryd.func7, Tryd.ntmps7
      have HP : Hid (parseFm [] = (zeroFm, 12)) := rfl
      obtain ⟨z0, z1, z2, z3, z4, z5, z6, z7, z8, lz⟩ := cells9 HP0.out
      have zz := HP0.out.frozen
      have HB9 := hide (below_put9 HB0.out (Nat.le_refl _) (.int .u64 0) (.int .u64 0) (.int .u64 0) (.int .u64 0) (.int .i64 0) (.int .i64 0) (.int .i64 0) (.int .i64 0) (.slice none 0 0))
      have HP9 := hide (put9 HP0.out (.int .u64 0) (.int .u64 0) (.int .u64 0) (.int .u64 0) (.int .i64 0) (.int .i64 0) (.int .i64 0) (.int .i64 0) (.slice none 0 0))
      go_upto_region 1 with fail
      rw [HW0.out]
      go_wp2
      refine ret92 Tryd.results7 (.inr rfl) rfl rfl rfl HP9.out ?_
      rw [HP.out]
      exact ⟨none, 0, rfl, ⟨.nil, Nat.le_refl _, fun _ => rfl, Nat.zero_le _⟩, HB9.out⟩
    | cons x ys =>
      have hn1 : 1 ≤ n := by rw [← HN.out]; simp
      have hz0 : ((n : Int) == 0) = false := by simp; omega
      obtain ⟨b, off, rfl, hcx, hbx⟩ := (HI.out.below HB0.out).at (i := 0) (by simp)
      rw [Nat.add_zero] at hcx
      rw [show (x :: ys).getD 0 0 = x from rfl] at hcx
      have hb0 : decide ((0 : Int) < (n : Int)) = true := by simp; omega
      obtain ⟨A, hA⟩ : ∃ A : Option Addr, some ⟨b, off, none⟩ = A := ⟨_, rfl⟩
      by_cases hx : x = 70
      · subst hx
        have hpt := parseFm_tail ys
        obtain ⟨xs, hxs⟩ : ∃ xs, 70 :: ys = xs := ⟨_, rfl⟩
        rw [hxs] at hb HI HN hpt
        have hpx : parseFm xs = if endFm xs (bodyFm xs (1, 0)) = 0 then ((bodyFm xs (1, 0)).2, 0) else (zeroFm, endFm xs (bodyFm xs (1, 0))) := by unfold parseFm; rw [if_neg (by rw [HN.out]; omega), if_pos (by rw [← hxs]; rfl)]
        clear hpt
        rw [hxs]
        clear hxs
        obtain ⟨⟨⟨t1, e1⟩, v0⟩, h0⟩ : ∃ X, numD xs (1, 0) = X := ⟨_, rfl⟩
        obtain ⟨⟨⟨t2, e2⟩, v1⟩, h1⟩ : ∃ X, numD xs (t1, e1) = X := ⟨_, rfl⟩
        obtain ⟨⟨⟨t3, e3⟩, v2⟩, h2⟩ : ∃ X, numD xs (t2, e2) = X := ⟨_, rfl⟩
        obtain ⟨⟨⟨t4, e4⟩, v3⟩, h3⟩ : ∃ X, numD xs (t3, e3) = X := ⟨_, rfl⟩
        obtain ⟨⟨⟨T, E⟩, D⟩, hTD⟩ : ∃ X, takeDe xs (t4, e4) = X := ⟨_, rfl⟩
        obtain ⟨dv, hdv⟩ : ∃ dv, dVal xs T E = dv := ⟨_, rfl⟩
        obtain ⟨nd, hnd⟩ : ∃ nd, D.ss.length = nd := ⟨_, rfl⟩
        have ht1 : t1 ≤ n := by have := num_t (xs := xs) (s := (1, 0)) hb (by rw [HN.out]; exact hn1); rw [h0, HN.out] at this; exact this
        have ht2 : t2 ≤ n := by have := num_t (xs := xs) (s := (t1, e1)) hb (by rw [HN.out]; exact ht1); rw [h1, HN.out] at this; exact this
        have ht3 : t3 ≤ n := by have := num_t (xs := xs) (s := (t2, e2)) hb (by rw [HN.out]; exact ht2); rw [h2, HN.out] at this; exact this
        have ht4 : t4 ≤ n := by have := num_t (xs := xs) (s := (t3, e3)) hb (by rw [HN.out]; exact ht3); rw [h3, HN.out] at this; exact this
        have hbf : bodyFm xs (1, 0) = ((T, E), ⟨v0, v1, v2, v3, D⟩) := by unfold bodyFm; simp only [h0, h1, h2, h3, hTD]
        rw [hbf] at hpx
        unfold endFm at hpx
        simp only [hdv] at hpx
        have HPT := hide hpx
        have HN0 := hide h0
        have HN1 := hide h1
        have HN2 := hide h2
        have HN3 := hide h3
        have HTD := hide hTD
        have HDV := hide hdv
        have HND := hide hnd
        have HA := hide hA
        rw [hA] at HI
        clear h0 h1 h2 h3 hTD hdv hnd hpx hbf hA hq1
        obtain ⟨W1, hW1⟩ : ∃ W1, (W0.alloc (.cells #[.int .u64 0, .int .u64 0, .int .u64 0, .int .u64 0, .int .i64 0, .int .i64 0, .int .i64 0, .int .i64 0, .slice none 0 0] 36)).alloc (.cells #[.slice A n c, .int .i64 1, .int .i64 0] 52) = W1 := ⟨_, rfl⟩
        go_enter Tryd.func7, Tryd.ntmps7
        go_upto_region 1 with fail
        rw [HW0.out]
        have hb1 : Below W0.heap.size W0 W1 := by rw [← hW1]; exact below2 _ _ _
        have HF0 : Hid (Whole W1 W0.heap.size 36 [.int .u64 0, .int .u64 0, .int .u64 0, .int .u64 0, .int .i64 0, .int .i64 0, .int .i64 0, .int .i64 0, .slice none 0 0]) := by unfold Hid; rw [← hW1]; exact (Whole.new W0 36 [.int .u64 0, .int .u64 0, .int .u64 0, .int .u64 0, .int .i64 0, .int .i64 0, .int .i64 0, .int .i64 0, .slice none 0 0]).alloc _
        have HQ0 : Hid (Whole W1 (W0.heap.size + 1) 52 [.slice A n c, .int .i64 1, .int .i64 0]) := by unfold Hid; rw [← hW1]; exact whole_snd W0 _ 52 [.slice A n c, .int .i64 1, .int .i64 0]
        have HZ := hide (HP0.out.later hb1)
        have HB := hide (HB0.out.trans (hb1.mono HB0.out.size))
        have HW1 := hide hW1
        go_upto_region 7 with fail
        rw [HA.out, HW1.out]
        have hlz := HP0.out.lt
        clear hb1 hW1 HW1 HP0 HB0 HW0 HA hcx hbx hb0 hz0
        have HZQ : Hid (w.heap.size ≠ W0.heap.size + 1) := by unfold Hid; omega
        have HZF : Hid (w.heap.size ≠ W0.heap.size) := by unfold Hid; omega
        have HBQ : Hid (w.heap.size ≤ W0.heap.size + 1) := by unfold Hid; omega
        have HBF : Hid (w.heap.size ≤ W0.heap.size) := by unfold Hid; omega
        have HFQ : Hid (W0.heap.size ≠ W0.heap.size + 1) := by unfold Hid; omega
        obtain ⟨Q, hQ⟩ : ∃ Q, W0.heap.size + 1 = Q := ⟨_, rfl⟩
        obtain ⟨Pf, hPf⟩ : ∃ P, W0.heap.size = P := ⟨_, rfl⟩
        rw [hQ] at HZQ HBQ HFQ HQ0 ⊢
        rw [hPf] at HZF HBF HFQ HF0 ⊢
        have HF := HF0
        have HQ := HQ0
        have hne : Pf ≠ Q := HFQ.out
        have hne2 : Q ≠ Pf := Ne.symm HFQ.out
        have HBY := hide hb
        clear HF0 HQ0 hQ hPf hlz hb
        go_upto_region 7 with fail
        go_cut [] from 21 to 28 (fun wx => Hid (Whole wx w.heap.size 36 [.int .u64 0, .int .u64 0, .int .u64 0, .int .u64 0, .int .i64 0, .int .i64 0, .int .i64 0, .int .i64 0, .slice none 0 0]) ∧ Hid (Whole wx Pf 36 [.int .u64 v0, .int .u64 0, .int .u64 0, .int .u64 0, .int .i64 0, .int .i64 0, .int .i64 0, .int .i64 0, .slice none 0 0]) ∧ Hid (Whole wx Q 52 [.slice A n c, .int .i64 (t1 : Int), .int .i64 e1]) ∧ Hid (Below w.heap.size w wx))
        case first =>
          obtain ⟨x0, x1, x2, xl⟩ := cells3 HQ.out
          go_wp2_with fail
          refine (rnumber_s A n c xs (1, 0) _ (HI.out.below HB.out) HN.out HBY.out hlen hnc hn1 HN0.out).mono ?_
          rintro e w1 ⟨rfl, hbw⟩
          clear x0 x1 x2 xl
          replace HZ := hide (HZ.out.later hbw)
          replace HF := hide (HF.out.later hbw)
          replace HQ := hide (HQ.out.later hbw)
          replace HB := hide (HB.out.trans (hbw.mono HB.out.size))
          clear hbw
          simp only
          obtain ⟨x0, x1, x2, xl⟩ := cells3 HQ.out
          have xz := HQ.out.frozen
          obtain ⟨f0, f1, f2, f3, f4, f5, f6, f7, f8, lf⟩ := cells9 HF.out
          have fz := HF.out.frozen
          have ho : Only Q w1 (((w1.setCell ⟨Q, 0, none⟩ (.slice A n c)).setCell ⟨Q, 1, none⟩ (.int .i64 (t1 : Int))).setCell ⟨Q, 2, none⟩ (.int .i64 e1)) := ((Only.put 0 _).trans (Only.put 1 _)).trans (Only.put 2 _)
          have HQ2 := hide (put3 HQ.out (.slice A n c) (.int .i64 (t1 : Int)) (.int .i64 e1))
          have HF2 := hide (HF.out.far ho HFQ.out)
          have HZ2 := hide (HZ.out.far ho HZQ.out)
          have HB2 := hide (below_put3 HB.out HBQ.out (.slice A n c) (.int .i64 (t1 : Int)) (.int .i64 e1))
          have HQ3 := hide (HQ2.out.far (Only.put 0 (.int .u64 v0)) (Ne.symm HFQ.out))
          have HF3 := hide (HF2.out.put 0 (.int .u64 v0))
          have HZ3 := hide (HZ2.out.far (Only.put 0 (.int .u64 v0)) HZF.out)
          have HB3 := hide (HB2.out.setCell (p := ⟨Pf, 0, none⟩) HBF.out (.int .u64 v0))
          clear ho HQ2 HF2 HZ2 HB2 HZ HF HQ HB
          go_wp2
          go_meet
          case rel => exact ⟨HZ3, HF3, HQ3, HB3⟩
        case rest =>
          clear HZ HF HQ HB
          obtain ⟨HZ, HF, HQ, HB⟩ := hcut
          go_upto_region 8 with fail
          go_cut [] from 29 to 34 (fun wx => Hid (Whole wx w.heap.size 36 [.int .u64 0, .int .u64 0, .int .u64 0, .int .u64 0, .int .i64 0, .int .i64 0, .int .i64 0, .int .i64 0, .slice none 0 0]) ∧ Hid (Whole wx Pf 36 [.int .u64 v0, .int .u64 v1, .int .u64 0, .int .u64 0, .int .i64 0, .int .i64 0, .int .i64 0, .int .i64 0, .slice none 0 0]) ∧ Hid (Whole wx Q 52 [.slice A n c, .int .i64 (t2 : Int), .int .i64 e2]) ∧ Hid (Below w.heap.size w wx))
          case first =>
            obtain ⟨x0, x1, x2, xl⟩ := cells3 HQ.out
            go_wp2_with fail
            refine (rnumber_s A n c xs (t1, e1) _ (HI.out.below HB.out) HN.out HBY.out hlen hnc ht1 HN1.out).mono ?_
            rintro e w1 ⟨rfl, hbw⟩
            clear x0 x1 x2 xl
            replace HZ := hide (HZ.out.later hbw)
            replace HF := hide (HF.out.later hbw)
            replace HQ := hide (HQ.out.later hbw)
            replace HB := hide (HB.out.trans (hbw.mono HB.out.size))
            clear hbw
            simp only
            obtain ⟨x0, x1, x2, xl⟩ := cells3 HQ.out
            have xz := HQ.out.frozen
            obtain ⟨f0, f1, f2, f3, f4, f5, f6, f7, f8, lf⟩ := cells9 HF.out
            have fz := HF.out.frozen
            have ho : Only Q w1 (((w1.setCell ⟨Q, 0, none⟩ (.slice A n c)).setCell ⟨Q, 1, none⟩ (.int .i64 (t2 : Int))).setCell ⟨Q, 2, none⟩ (.int .i64 e2)) := ((Only.put 0 _).trans (Only.put 1 _)).trans (Only.put 2 _)
            have HQ2 := hide (put3 HQ.out (.slice A n c) (.int .i64 (t2 : Int)) (.int .i64 e2))
            have HF2 := hide (HF.out.far ho HFQ.out)
            have HZ2 := hide (HZ.out.far ho HZQ.out)
            have HB2 := hide (below_put3 HB.out HBQ.out (.slice A n c) (.int .i64 (t2 : Int)) (.int .i64 e2))
            have HQ3 := hide (HQ2.out.far (Only.put 1 (.int .u64 v1)) (Ne.symm HFQ.out))
            have HF3 := hide (HF2.out.put 1 (.int .u64 v1))
            have HZ3 := hide (HZ2.out.far (Only.put 1 (.int .u64 v1)) HZF.out)
            have HB3 := hide (HB2.out.setCell (p := ⟨Pf, 1, none⟩) HBF.out (.int .u64 v1))
            clear ho HQ2 HF2 HZ2 HB2 HZ HF HQ HB
            go_wp2
            go_meet
            case rel => exact ⟨HZ3, HF3, HQ3, HB3⟩
          case rest =>
            clear HZ HF HQ HB
            obtain ⟨HZ, HF, HQ, HB⟩ := hcut
            go_upto_region 9 with fail
            go_cut [] from 35 to 40 (fun wx => Hid (Whole wx w.heap.size 36 [.int .u64 0, .int .u64 0, .int .u64 0, .int .u64 0, .int .i64 0, .int .i64 0, .int .i64 0, .int .i64 0, .slice none 0 0]) ∧ Hid (Whole wx Pf 36 [.int .u64 v0, .int .u64 v1, .int .u64 v2, .int .u64 0, .int .i64 0, .int .i64 0, .int .i64 0, .int .i64 0, .slice none 0 0]) ∧ Hid (Whole wx Q 52 [.slice A n c, .int .i64 (t3 : Int), .int .i64 e3]) ∧ Hid (Below w.heap.size w wx))
            case first =>
              obtain ⟨x0, x1, x2, xl⟩ := cells3 HQ.out
              go_wp2_with fail
              refine (rnumber_s A n c xs (t2, e2) _ (HI.out.below HB.out) HN.out HBY.out hlen hnc ht2 HN2.out).mono ?_
              rintro e w1 ⟨rfl, hbw⟩
              clear x0 x1 x2 xl
              replace HZ := hide (HZ.out.later hbw)
              replace HF := hide (HF.out.later hbw)
              replace HQ := hide (HQ.out.later hbw)
              replace HB := hide (HB.out.trans (hbw.mono HB.out.size))
              clear hbw
              simp only
              obtain ⟨x0, x1, x2, xl⟩ := cells3 HQ.out
              have xz := HQ.out.frozen
              obtain ⟨f0, f1, f2, f3, f4, f5, f6, f7, f8, lf⟩ := cells9 HF.out
              have fz := HF.out.frozen
              have ho : Only Q w1 (((w1.setCell ⟨Q, 0, none⟩ (.slice A n c)).setCell ⟨Q, 1, none⟩ (.int .i64 (t3 : Int))).setCell ⟨Q, 2, none⟩ (.int .i64 e3)) := ((Only.put 0 _).trans (Only.put 1 _)).trans (Only.put 2 _)
              have HQ2 := hide (put3 HQ.out (.slice A n c) (.int .i64 (t3 : Int)) (.int .i64 e3))
              have HF2 := hide (HF.out.far ho HFQ.out)
              have HZ2 := hide (HZ.out.far ho HZQ.out)
              have HB2 := hide (below_put3 HB.out HBQ.out (.slice A n c) (.int .i64 (t3 : Int)) (.int .i64 e3))
              have HQ3 := hide (HQ2.out.far (Only.put 2 (.int .u64 v2)) (Ne.symm HFQ.out))
              have HF3 := hide (HF2.out.put 2 (.int .u64 v2))
              have HZ3 := hide (HZ2.out.far (Only.put 2 (.int .u64 v2)) HZF.out)
              have HB3 := hide (HB2.out.setCell (p := ⟨Pf, 2, none⟩) HBF.out (.int .u64 v2))
              clear ho HQ2 HF2 HZ2 HB2 HZ HF HQ HB
              go_wp2
              go_meet
              case rel => exact ⟨HZ3, HF3, HQ3, HB3⟩
            case rest =>
              clear HZ HF HQ HB
              obtain ⟨HZ, HF, HQ, HB⟩ := hcut
              go_upto_region 10 with fail
              go_cut [] from 41 to 46 (fun wx => Hid (Whole wx w.heap.size 36 [.int .u64 0, .int .u64 0, .int .u64 0, .int .u64 0, .int .i64 0, .int .i64 0, .int .i64 0, .int .i64 0, .slice none 0 0]) ∧ Hid (Whole wx Pf 36 [.int .u64 v0, .int .u64 v1, .int .u64 v2, .int .u64 v3, .int .i64 0, .int .i64 0, .int .i64 0, .int .i64 0, .slice none 0 0]) ∧ Hid (Whole wx Q 52 [.slice A n c, .int .i64 (t4 : Int), .int .i64 e4]) ∧ Hid (Below w.heap.size w wx))
              case first =>
                obtain ⟨x0, x1, x2, xl⟩ := cells3 HQ.out
                go_wp2_with fail
                refine (rnumber_s A n c xs (t3, e3) _ (HI.out.below HB.out) HN.out HBY.out hlen hnc ht3 HN3.out).mono ?_
                rintro e w1 ⟨rfl, hbw⟩
                clear x0 x1 x2 xl
                replace HZ := hide (HZ.out.later hbw)
                replace HF := hide (HF.out.later hbw)
                replace HQ := hide (HQ.out.later hbw)
                replace HB := hide (HB.out.trans (hbw.mono HB.out.size))
                clear hbw
                simp only
                obtain ⟨x0, x1, x2, xl⟩ := cells3 HQ.out
                have xz := HQ.out.frozen
                obtain ⟨f0, f1, f2, f3, f4, f5, f6, f7, f8, lf⟩ := cells9 HF.out
                have fz := HF.out.frozen
                have ho : Only Q w1 (((w1.setCell ⟨Q, 0, none⟩ (.slice A n c)).setCell ⟨Q, 1, none⟩ (.int .i64 (t4 : Int))).setCell ⟨Q, 2, none⟩ (.int .i64 e4)) := ((Only.put 0 _).trans (Only.put 1 _)).trans (Only.put 2 _)
                have HQ2 := hide (put3 HQ.out (.slice A n c) (.int .i64 (t4 : Int)) (.int .i64 e4))
                have HF2 := hide (HF.out.far ho HFQ.out)
                have HZ2 := hide (HZ.out.far ho HZQ.out)
                have HB2 := hide (below_put3 HB.out HBQ.out (.slice A n c) (.int .i64 (t4 : Int)) (.int .i64 e4))
                have HQ3 := hide (HQ2.out.far (Only.put 3 (.int .u64 v3)) (Ne.symm HFQ.out))
                have HF3 := hide (HF2.out.put 3 (.int .u64 v3))
                have HZ3 := hide (HZ2.out.far (Only.put 3 (.int .u64 v3)) HZF.out)
                have HB3 := hide (HB2.out.setCell (p := ⟨Pf, 3, none⟩) HBF.out (.int .u64 v3))
                clear ho HQ2 HF2 HZ2 HB2 HZ HF HQ HB
                go_wp2
                go_meet
                case rel => exact ⟨HZ3, HF3, HQ3, HB3⟩
              case rest =>
                clear HZ HF HQ HB
                obtain ⟨HZ, HF, HQ, HB⟩ := hcut
                go_upto_region 11 with fail
                go_cut [] from 47 to 52 (fun wx => ∃ A2 c2, Hid (Whole wx w.heap.size 36 [.int .u64 0, .int .u64 0, .int .u64 0, .int .u64 0, .int .i64 0, .int .i64 0, .int .i64 0, .int .i64 0, .slice none 0 0]) ∧ Hid (Whole wx Pf 36 [.int .u64 v0, .int .u64 v1, .int .u64 v2, .int .u64 v3, .int .i64 D.rows, .int .i64 D.cols, .int .i64 D.row, .int .i64 D.col, .slice A2 nd c2]) ∧ Hid (Whole wx Q 52 [.slice A n c, .int .i64 (T : Int), .int .i64 E]) ∧ Hid (Below w.heap.size w wx) ∧ Hid (DfOk 0 81 118 .i64 wx D A2 c2))
                case first =>
                  obtain ⟨x0, x1, x2, xl⟩ := cells3 HQ.out
                  go_wp2_with fail
                  have KEY := rdetake_any A n c xs (t4, e4) _ (HI.out.below HB.out) HN.out HBY.out hlen hnc ht4
                  rw [HTD.out] at KEY
                  refine KEY.mono ?_
                  clear KEY
                  rintro e w1 ⟨A2, c2, rfl, hd, hbw⟩
                  simp only at hd
                  simp only
                  rw [HND.out]
                  clear x0 x1 x2 xl
                  replace HZ := hide (HZ.out.later hbw)
                  replace HF := hide (HF.out.later hbw)
                  replace HQ := hide (HQ.out.later hbw)
                  replace HB := hide (HB.out.trans (hbw.mono HB.out.size))
                  clear hbw
                  obtain ⟨x0, x1, x2, xl⟩ := cells3 HQ.out
                  have xz := HQ.out.frozen
                  obtain ⟨f0, f1, f2, f3, f4, f5, f6, f7, f8, lf⟩ := cells9 HF.out
                  have fz := HF.out.frozen
                  have ho : Only Q w1 (((w1.setCell ⟨Q, 0, none⟩ (.slice A n c)).setCell ⟨Q, 1, none⟩ (.int .i64 (T : Int))).setCell ⟨Q, 2, none⟩ (.int .i64 E)) := ((Only.put 0 _).trans (Only.put 1 _)).trans (Only.put 2 _)
                  have HQ2 := hide (put3 HQ.out (.slice A n c) (.int .i64 (T : Int)) (.int .i64 E))
                  have HF2 := hide (HF.out.far ho HFQ.out)
                  have HZ2 := hide (HZ.out.far ho HZQ.out)
                  have HB2 := hide (below_put3 HB.out HBQ.out (.slice A n c) (.int .i64 (T : Int)) (.int .i64 E))
                  have HD2 : Hid (DfOk 0 81 118 .i64 _ D A2 c2) := ⟨hd.sps.keep (fun b => nob b) (Stays.only ho (show _ = _ from HQ.out) (by decide)) (Stays.only ho (show _ = _ from HQ.out) (by decide)), hd.cap, hd.none, Nat.zero_le _⟩
                  obtain ⟨w2, hw2⟩ : ∃ w2, ((w1.setCell ⟨Q, 0, none⟩ (.slice A n c)).setCell ⟨Q, 1, none⟩ (.int .i64 (T : Int))).setCell ⟨Q, 2, none⟩ (.int .i64 E) = w2 := ⟨_, rfl⟩
                  have HW2 := hide hw2
                  rw [hw2] at HQ2 HF2 HZ2 HB2 HD2 ho
                  clear hw2 hd ho HZ HF HQ HB f0 f1 f2 f3 f4 f5 f6 f7 f8 lf fz
                  obtain ⟨f0, f1, f2, f3, f4, f5, f6, f7, f8, lf⟩ := cells9 HF2.out
                  have fz := HF2.out.frozen
                  have HF3 := hide (put5at HF2.out (.int .i64 D.rows) (.int .i64 D.cols) (.int .i64 D.row) (.int .i64 D.col) (.slice A2 nd c2))
                  have HQ3 := hide (HQ2.out.same (heap_put5at w2 Pf (.int .i64 D.rows) (.int .i64 D.cols) (.int .i64 D.row) (.int .i64 D.col) (.slice A2 nd c2) Q (Ne.symm HFQ.out)))
                  have HZ3 := hide (HZ2.out.same (heap_put5at w2 Pf (.int .i64 D.rows) (.int .i64 D.cols) (.int .i64 D.row) (.int .i64 D.col) (.slice A2 nd c2) w.heap.size HZF.out))
                  have HB3 := hide (below_put5at HB2.out HBF.out (.int .i64 D.rows) (.int .i64 D.cols) (.int .i64 D.row) (.int .i64 D.col) (.slice A2 nd c2))
                  have HD3 := hide (dfok_put5at HD2.out HF2.out (by decide) (by decide) (.int .i64 D.rows) (.int .i64 D.cols) (.int .i64 D.row) (.int .i64 D.col) (.slice A2 nd c2))
                  clear HQ2 HF2 HZ2 HB2 HD2
                  go_wp2_with (rw [HW2.out])
                  go_meet
                  case rel => exact ⟨A2, c2, HZ3, HF3, HQ3, HB3, HD3⟩
                case rest =>
                  clear HZ HF HQ HB
                  obtain ⟨A2, c2, HZ, HF, HQ, HB, HD⟩ := hcut
                  clear HI HN0 HN1 HN2 HN3 HTD
                  go_upto_region 12 with fail
                  go_cut [6] from 53 to 54 (fun p wx => p = .int .i64 dv ∧ Hid (Whole wx w.heap.size 36 [.int .u64 0, .int .u64 0, .int .u64 0, .int .u64 0, .int .i64 0, .int .i64 0, .int .i64 0, .int .i64 0, .slice none 0 0]) ∧ Hid (Whole wx Pf 36 [.int .u64 v0, .int .u64 v1, .int .u64 v2, .int .u64 v3, .int .i64 D.rows, .int .i64 D.cols, .int .i64 D.row, .int .i64 D.col, .slice A2 nd c2]) ∧ Hid (Below w.heap.size w wx) ∧ Hid (DfOk 0 81 118 .i64 wx D A2 c2))
                  case first =>
                    obtain ⟨x0, x1, x2, xl⟩ := cells3 HQ.out
                    go_wp2_with fail
                    refine (rdone A n c xs T E _ HN.out).mono ?_
                    rw [HDV.out]
                    rintro e w1 ⟨rfl, hbw⟩
                    clear x0 x1 x2 xl
                    replace HZ := hide (HZ.out.later hbw)
                    replace HF := hide (HF.out.later hbw)
                    replace HD := hide (HD.out.below hbw)
                    replace HB := hide (HB.out.trans (hbw.mono HB.out.size))
                    clear hbw HQ
                    go_wp2
                    go_meet
                    case rel => exact ⟨rfl, HZ, HF, HB, HD⟩
                  case rest =>
                    clear HZ HF HQ HB HD HFQ HZQ HBQ
                    obtain ⟨rfl, HZ, HF, HB, HD⟩ := hcut
                    clear HN ht1 ht2 ht3 ht4 HBY hn1 HDV hne hne2
                    have HL := hide hlen
                    have HCC := hide hnc
                    clear hlen hnc
                    by_cases hz : dv = 0
                    · have e1 : (dv == 0) = true := by simpa using hz
                      have e2 : (dv != 0) = false := by simpa using hz
                      obtain ⟨q, hq⟩ : ∃ q, decide (v0 ≤ v1) = q := ⟨_, rfl⟩
                      have HQD := hide hq
                      cases q with
                      | true =>
                        have HPQ : Hid (parseFm xs = (zeroFm, 17)) := by unfold Hid; rw [HPT.out]; simp only [if_pos (And.intro hz (of_decide_eq_true HQD.out))]; rw [if_neg (by decide)]
                        clear hz
                        obtain ⟨f0, f1, f2, f3, f4, f5, f6, f7, f8, lf⟩ := cells9 HF.out
                        go_upto_region 15 with fail
                        clear f0 f1 f2 f3 f4 f5 f6 f7 f8 lf
                        obtain ⟨z0, z1, z2, z3, z4, z5, z6, z7, z8, lz⟩ := cells9 HZ.out
                        have zz := HZ.out.frozen
                        have HB9 := hide (below_put9 HB.out (Nat.le_refl _) (.int .u64 0) (.int .u64 0) (.int .u64 0) (.int .u64 0) (.int .i64 0) (.int .i64 0) (.int .i64 0) (.int .i64 0) (.slice none 0 0))
                        have HP9 := hide (put9 HZ.out (.int .u64 0) (.int .u64 0) (.int .u64 0) (.int .u64 0) (.int .i64 0) (.int .i64 0) (.int .i64 0) (.int .i64 0) (.slice none 0 0))
                        clear HD HB HF HZ
                        go_wp2
                        refine ret92 Tryd.results7 (.inr rfl) rfl rfl rfl HP9.out ?_
                        rw [HPQ.out]
                        exact ⟨none, 0, rfl, ⟨.nil, Nat.le_refl _, fun _ => rfl, Nat.zero_le _⟩, HB9.out⟩
                      | false =>
                        have HPQ : Hid (parseFm xs = ((⟨v0, v1, v2, v3, D⟩ : Fm), 0)) := by unfold Hid; rw [HPT.out]; have hno : ¬ (dv = 0 ∧ v0 ≤ v1) := fun z => of_decide_eq_false HQD.out z.2; simp only [if_neg hno, if_pos hz]
                        clear hz
                        obtain ⟨f0, f1, f2, f3, f4, f5, f6, f7, f8, lf⟩ := cells9 HF.out
                        obtain ⟨z0, z1, z2, z3, z4, z5, z6, z7, z8, lz⟩ := cells9 HZ.out
                        have zz := HZ.out.frozen
                        have HB9 := hide (below_put9 HB.out (Nat.le_refl _) (.int .u64 v0) (.int .u64 v1) (.int .u64 v2) (.int .u64 v3) (.int .i64 D.rows) (.int .i64 D.cols) (.int .i64 D.row) (.int .i64 D.col) (.slice A2 nd c2))
                        have HP9 := hide (put9 HZ.out (.int .u64 v0) (.int .u64 v1) (.int .u64 v2) (.int .u64 v3) (.int .i64 D.rows) (.int .i64 D.cols) (.int .i64 D.row) (.int .i64 D.col) (.slice A2 nd c2))
                        have HD9 := hide (dfok_put9 HD.out HZ.out (by decide) (by decide) (.int .u64 v0) (.int .u64 v1) (.int .u64 v2) (.int .u64 v3) (.int .i64 D.rows) (.int .i64 D.cols) (.int .i64 D.row) (.int .i64 D.col) (.slice A2 nd c2))
                        clear HD HB HF HZ
                        go_wp2
                        refine ret92 Tryd.results7 (.inr rfl) rfl rfl rfl HP9.out ?_
                        rw [HPQ.out]
                        exact ⟨A2, c2, by rw [← HND.out]; rfl, HD9.out, HB9.out⟩
                    · have e1 : (dv == 0) = false := by simpa using hz
                      have e2 : (dv != 0) = true := by simpa using hz
                      have HPQ : Hid (parseFm xs = (zeroFm, dv)) := by unfold Hid; rw [HPT.out]; have hno : ¬ (dv = 0 ∧ v0 ≤ v1) := fun z => hz z.1; simp only [if_neg hno, if_neg hz]
                      clear hz
                      obtain ⟨z0, z1, z2, z3, z4, z5, z6, z7, z8, lz⟩ := cells9 HZ.out
                      have zz := HZ.out.frozen
                      have HB9 := hide (below_put9 HB.out (Nat.le_refl _) (.int .u64 0) (.int .u64 0) (.int .u64 0) (.int .u64 0) (.int .i64 0) (.int .i64 0) (.int .i64 0) (.int .i64 0) (.slice none 0 0))
                      have HP9 := hide (put9 HZ.out (.int .u64 0) (.int .u64 0) (.int .u64 0) (.int .u64 0) (.int .i64 0) (.int .i64 0) (.int .i64 0) (.int .i64 0) (.slice none 0 0))
                      clear HD HB HF HZ
                      go_wp2
                      refine ret92 Tryd.results7 (.inr rfl) rfl rfl rfl HP9.out ?_
                      rw [HPQ.out]
                      exact ⟨none, 0, rfl, ⟨.nil, Nat.le_refl _, fun _ => rfl, Nat.zero_le _⟩, HB9.out⟩
      · have hx70 : (x != 70) = true := by simpa using hx
        have HPX : Hid (parseFm (x :: ys) = (zeroFm, 12)) := by unfold Hid parseFm; rw [if_neg (by rw [HN.out]; omega), if_neg (by simp only [List.head?_cons, Option.some.injEq]; exact hx)]
        clear hx hA
        obtain ⟨xs, hxs⟩ : ∃ xs, x :: ys = xs := ⟨_, rfl⟩
        rw [hxs] at HPX ⊢
        clear hxs
        go_enter Tryd.func7, Tryd.ntmps7
        have HP : Hid (parseFm xs = (zeroFm, 12)) := HPX
        obtain ⟨z0, z1, z2, z3, z4, z5, z6, z7, z8, lz⟩ := cells9 HP0.out
        have zz := HP0.out.frozen
        have HB9 := hide (below_put9 HB0.out (Nat.le_refl _) (.int .u64 0) (.int .u64 0) (.int .u64 0) (.int .u64 0) (.int .i64 0) (.int .i64 0) (.int .i64 0) (.int .i64 0) (.slice none 0 0))
        have HP9 := hide (put9 HP0.out (.int .u64 0) (.int .u64 0) (.int .u64 0) (.int .u64 0) (.int .i64 0) (.int .i64 0) (.int .i64 0) (.int .i64 0) (.slice none 0 0))
        go_upto_region 1 with fail
        rw [HW0.out]
        go_wp2
        refine ret92 Tryd.results7 (.inr rfl) rfl rfl rfl HP9.out ?_
        rw [HP.out]
        exact ⟨none, 0, rfl, ⟨.nil, Nat.le_refl _, fun _ => rfl, Nat.zero_le _⟩, HB9.out⟩
end Go.Proofs.YtcbdokocnjoilaaDoor
