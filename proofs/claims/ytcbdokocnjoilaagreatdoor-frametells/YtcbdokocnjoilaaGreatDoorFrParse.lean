/-
  Contract: the frame of bytes (the program's Parse).
-/
import Derived.Test.YtcbdokocnjoilaaGreatDoorFrTake
namespace Go.Proofs.YtcbdokocnjoilaaGreatDoor
set_option maxRecDepth 100000
open Go.ChangeShapes Go.WideShapes Go.ChangeAt Go.RowKit
set_option linter.unusedVariables false

/-- The frame at the jump: its result's block, the error. -/
def AtWrongF (P : Nat) (v : Int) (a : Act) : Prop := ∃ u0 u1 u3 u4 u6 u7 u8 u9 u10 u11 u12 u13 u14 u15 u16 u17 u18 u19 u20 u21 u22 u23 u24 u25, a = { tmps := #[u0, u1, .pointer (some ⟨P, 0, none⟩), u3, u4, .int .i64 v, u6, u7, u8, u9, u10, u11, u12, u13, u14, u15, u16, u17, u18, u19, u20, u21, u22, u23, u24, u25], defers := [] }
/-- What Parse leaves. -/
def ParseFS (w : World) (x : Fm × Int) (e : Ending) (w' : World) : Prop :=
  ∃ A c, e = .returned (.tuple #[.agg #[.int .u64 x.1.num, .int .u64 x.1.base, .int .u64 x.1.echo, .int .u64 x.1.stamp, .int .i64 x.1.d.rows, .int .i64 x.1.d.cols, .int .i64 x.1.d.row, .int .i64 x.1.d.col, .slice A x.1.d.ss.length c], .int .i64 x.2]) ∧ DfOk 0 68 105 .i32 w' x.1.d A c ∧ Below w.heap.size w w'
theorem tail_70 {xs : List Int} (h : xs.head? = some 70) : xs = 70 :: xs.tail := by
  cases xs with
  | nil => cases h
  | cons a l => simp only [List.head?_cons, Option.some.injEq] at h; rw [h]; rfl
set_option maxHeartbeats 4000000 in
theorem frparse_any (A : Option Addr) (n c : Nat) (xs : List Int) (w : World) (h : Ints .u8 w A xs) (hn : xs.length = n) (hc : A = none → c = 0) (hnc : n ≤ c) (hlen : n ≤ 1000000) (hb : Byte xs) (hS : Spans w) :
    Calls Tryz.prog 12 #[.slice A n c] w (ParseFS w (parseFm xs)) := by
  obtain ⟨W0, hW0⟩ : ∃ W0, (w.alloc (.cells #[.int .u64 0, .int .u64 0, .int .u64 0, .int .u64 0, .int .i64 0, .int .i64 0, .int .i64 0, .int .i64 0, .slice none 0 0] 27)).alloc (.cells #[.int .u64 0, .int .u64 0, .int .u64 0, .int .u64 0, .int .i64 0, .int .i64 0, .int .i64 0, .int .i64 0, .slice none 0 0] 27) = W0 := ⟨_, rfl⟩
  have HB0 : Hid (Below w.heap.size w W0) := by unfold Hid; rw [← hW0]; exact below2 w _ _
  have HP0 : Hid (Whole W0 w.heap.size 27 [.int .u64 0, .int .u64 0, .int .u64 0, .int .u64 0, .int .i64 0, .int .i64 0, .int .i64 0, .int .i64 0, .slice none 0 0]) := by unfold Hid; rw [← hW0]; exact (Whole.new w 27 [.int .u64 0, .int .u64 0, .int .u64 0, .int .u64 0, .int .i64 0, .int .i64 0, .int .i64 0, .int .i64 0, .slice none 0 0]).alloc _
  have HF0 : Hid (Whole W0 (w.heap.size + 1) 27 [.int .u64 0, .int .u64 0, .int .u64 0, .int .u64 0, .int .i64 0, .int .i64 0, .int .i64 0, .int .i64 0, .slice none 0 0]) := by unfold Hid; rw [← hW0]; exact whole_snd w _ 27 [.int .u64 0, .int .u64 0, .int .u64 0, .int .u64 0, .int .i64 0, .int .i64 0, .int .i64 0, .int .i64 0, .slice none 0 0]
  have HI := hide (h.below HB0.out)
  have HS := hide (hS.below HB0.out)
  have HN := hide hn
  have HW0 := hide hW0
  have HBY := hide hb
  have HCN := hide hc
  obtain ⟨q1, hq1⟩ : ∃ q, decide ((65536 : Int) < (n : Int)) = q := ⟨_, rfl⟩
  obtain ⟨q2, hq2⟩ : ∃ q, decide (xs.head? = some 70) = q := ⟨_, rfl⟩
  have HQ1 := hide hq1
  have HQ2 := hide hq2
  clear h hn hS hW0 hb hc hq2
  go_enter Tryz.func12, Tryz.ntmps12
  go_wp2
  refine wp_scope_jumps 0 (fun a' w' => ∃ v, AtWrongF w.heap.size v a' ∧ Hid (Whole w' w.heap.size 27 [.int .u64 0, .int .u64 0, .int .u64 0, .int .u64 0, .int .i64 0, .int .i64 0, .int .i64 0, .int .i64 0, .slice none 0 0]) ∧ Hid (Below w.heap.size w w') ∧ Hid (parseFm xs = (zeroFm, v))) (fun _ _ => 0) rfl ?_ ?_
  · cases q1 with
    | true =>
      have HP : Hid (parseFm xs = (zeroFm, 2)) := by unfold Hid parseFm; rw [if_pos (by rw [HN.out]; have := of_decide_eq_true hq1; omega)]
      go_wp2
      go_step3
      rw [HW0.out]
      exact ⟨rfl, 2, ⟨_, _, _, _, _, _, _, _, _, _, _, _, _, _, _, _, _, _, _, _, _, _, _, _, rfl⟩, HP0, HB0, HP⟩
    | false =>
      have hq0 : n ≤ 65536 := by have := of_decide_eq_false hq1; omega
      have fis := fris_any A n c xs W0 HI.out HN.out
      rw [HQ2.out] at fis
      have FIS := hide fis
      clear fis
      cases q2 with
      | false =>
        have HP : Hid (parseFm xs = (zeroFm, 12)) := by unfold Hid parseFm; rw [if_neg (by rw [HN.out]; omega), if_neg (of_decide_eq_false HQ2.out)]
        go_wp2_with fail
        rw [HW0.out]
        refine FIS.out.mono ?_
        rintro e w1 ⟨rfl, rfl⟩
        go_wp2
        go_step3
        exact ⟨rfl, 12, ⟨_, _, _, _, _, _, _, _, _, _, _, _, _, _, _, _, _, _, _, _, _, _, _, _, rfl⟩, HP0, HB0, HP⟩
      | true =>
        have hx := tail_70 (of_decide_eq_true HQ2.out)
        obtain ⟨ys, hys⟩ : ∃ ys, xs.tail = ys := ⟨_, rfl⟩
        rw [hys] at hx
        have hdr : xs.drop 1 = ys := by rw [← hys, List.drop_one]
        have HYB : Hid (Byte ys) := fun x hx => HBY.out x (by rw [← hys] at hx; exact List.mem_of_mem_tail hx)
        obtain ⟨M, hM⟩ : ∃ M, n - 1 = M := ⟨_, rfl⟩
        obtain ⟨C1, hC1⟩ : ∃ C1, c - 1 = C1 := ⟨_, rfl⟩
        have hn1 : 1 ≤ n := by rw [← HN.out, hx]; simp
        have HYN : Hid (ys.length = M) := by unfold Hid; rw [← hdr, List.length_drop, HN.out, hM]
        obtain ⟨A3, hA3⟩ : ∃ A3, (if c = 1 then A else A.map (·.add 1)) = A3 := ⟨_, rfl⟩
        have hi3 := HI.out.cut 1 c (by rw [HN.out]; exact hnc)
        rw [hA3, hdr] at hi3
        have hn3 := cut_nil_ (q := 1) HCN.out
        rw [hA3, hC1] at hn3
        have HI3 := hide hi3
        have HN3 := hide hn3
        have HA3 := hide hA3
        have HM := hide hM
        have HC1 := hide hC1
        have hM9 : M ≤ 65535 := by omega
        have p2 : (1 : Int) ≤ (n : Int) := by omega
        have p3 : (1 : Int) ≤ (c : Int) := by omega
        have p4 : (n : Int) ≤ (c : Int) := by omega
        have hpt := parseFm_tail ys
        rw [← hx, if_neg (by rw [HYN.out]; omega)] at hpt
        obtain ⟨⟨⟨T, E⟩, f⟩, hX⟩ : ∃ X, bodyFm ys (0, 0) = X := ⟨_, rfl⟩
        have HX := hide hX
        rw [hX] at hpt
        unfold endFm at hpt
        simp only at hpt
        obtain ⟨D, hD⟩ : ∃ D, dVal ys T E = D := ⟨_, rfl⟩
        rw [hD] at hpt
        have HD := hide hD
        have HPT := hide hpt
        have HBI := hide (hi3)
        clear hx hys hdr hM hC1 hA3 hi3 hn3 hpt hX hD
        go_wp2_with fail
        rw [HW0.out]
        refine FIS.out.mono ?_
        rintro e w1 ⟨rfl, rfl⟩
        go_wp2_with (with_reducible refine wpList_val (o := ⟨some 14, _, _, _, _, _⟩) rfl (v := .slice A3 M C1) ?_ ?_)
        · rw [← HA3.out, ← HM.out, ← HC1.out]
          go_simp
        refine (frtake_s A3 M C1 ys W0 HI3.out HYN.out HN3.out (by omega) HYB.out HS.out).mono ?_
        rw [HX.out]
        rintro e w2 ⟨A2, c2, rfl, hd, hb2⟩
        simp only at hd
        simp only
        rw [HD.out]
        obtain ⟨k2, hk2⟩ : ∃ k2, f.d.ss.length = k2 := ⟨_, rfl⟩
        rw [hk2]
        have HK2 := hide hk2
        have HP2 := hide (HP0.out.later hb2)
        have HF2 := hide (HF0.out.later hb2)
        have HB2 := hide (HB0.out.trans (hb2.mono HB0.out.size))
        have hlz := HP0.out.lt
        have HNE : Hid (w.heap.size ≠ w.heap.size + 1) := by unfold Hid; omega
        obtain ⟨Pf, hPf⟩ : ∃ Pf, w.heap.size + 1 = Pf := ⟨_, rfl⟩
        have HPF : Hid (w.heap.size ≤ Pf) := by unfold Hid; omega
        rw [hPf] at HF2 HNE ⊢
        clear hb2 hk2 hPf hlz
        obtain ⟨p0, p1, p2, p3, p4, p5, p6, p7, p8, lp⟩ := cells9 HF2.out
        have pz := HF2.out.frozen
        have HF3 := hide (put9 HF2.out (.int .u64 f.num) (.int .u64 f.base) (.int .u64 f.echo) (.int .u64 f.stamp) (.int .i64 f.d.rows) (.int .i64 f.d.cols) (.int .i64 f.d.row) (.int .i64 f.d.col) (.slice A2 k2 c2))
        have HP3 := hide (HP2.out.same (heap_put9 w2 Pf (.int .u64 f.num) (.int .u64 f.base) (.int .u64 f.echo) (.int .u64 f.stamp) (.int .i64 f.d.rows) (.int .i64 f.d.cols) (.int .i64 f.d.row) (.int .i64 f.d.col) (.slice A2 k2 c2) w.heap.size HNE.out))
        have HB3 := hide (below_put9 HB2.out HPF.out (.int .u64 f.num) (.int .u64 f.base) (.int .u64 f.echo) (.int .u64 f.stamp) (.int .i64 f.d.rows) (.int .i64 f.d.cols) (.int .i64 f.d.row) (.int .i64 f.d.col) (.slice A2 k2 c2))
        have HD3 := hide (dfok_put9 hd HF2.out (by decide) (by decide) (.int .u64 f.num) (.int .u64 f.base) (.int .u64 f.echo) (.int .u64 f.stamp) (.int .i64 f.d.rows) (.int .i64 f.d.cols) (.int .i64 f.d.row) (.int .i64 f.d.col) (.slice A2 k2 c2))
        obtain ⟨w3, hw3⟩ : ∃ w3, set9 w2 Pf (.int .u64 f.num) (.int .u64 f.base) (.int .u64 f.echo) (.int .u64 f.stamp) (.int .i64 f.d.rows) (.int .i64 f.d.cols) (.int .i64 f.d.row) (.int .i64 f.d.col) (.slice A2 k2 c2) = w3 := ⟨_, rfl⟩
        rw [hw3] at HF3 HP3 HB3 HD3
        unfold set9 at hw3
        have HW3 := hide hw3
        clear hd hw3
        go_upto_region 8 with fail
        rw [HW3.out]
        clear p0 p1 p2 p3 p4 p5 p6 p7 p8 lp
        clear pz HF2 HP2 HB2 HF0 HI HCN HBY HI3 HBI FIS
        by_cases hz : D = 0
        · have e1 : (D != 0) = false := by simpa using hz
          rw [hz] at HPT
          simp only [true_and] at HPT
          obtain ⟨q4, hq4⟩ : ∃ q, decide (f.base < f.num) = q := ⟨_, rfl⟩
          have HQ4 := hide hq4
          clear hz hq4
          obtain ⟨p0, p1, p2, p3, p4, p5, p6, p7, p8, lp⟩ := cells9 HF3.out
          go_wp2_with fail
          refine (frordered_any f A2 k2 c2 w3).mono ?_
          rw [HQ4.out]
          rintro e w4 ⟨rfl, hb4⟩
          have HF4 := hide (HF3.out.later hb4)
          have HP4 := hide (HP3.out.later hb4)
          have HD4 := hide (HD3.out.below hb4)
          have HB4 := hide (HB3.out.trans (hb4.mono HB3.out.size))
          clear hb4
          clear p0 p1 p2 p3 p4 p5 p6 p7 p8 lp
          cases q4 with
          | true =>
            have HPQ : Hid (parseFm xs = (f, 0)) := by
              unfold Hid
              have hnb : ¬ f.num ≤ f.base := by have := of_decide_eq_true HQ4.out; omega
              rw [HPT.out]
              simp only [if_neg hnb, if_true]
            obtain ⟨p0, p1, p2, p3, p4, p5, p6, p7, p8, lp⟩ := cells9 HF4.out
            obtain ⟨z0, z1, z2, z3, z4, z5, z6, z7, z8, lz⟩ := cells9 HP4.out
            have zz := HP4.out.frozen
            go_wp2
            refine ret92 Tryz.results12 (.inl rfl) rfl rfl rfl (put9 HP4.out (.int .u64 f.num) (.int .u64 f.base) (.int .u64 f.echo) (.int .u64 f.stamp) (.int .i64 f.d.rows) (.int .i64 f.d.cols) (.int .i64 f.d.row) (.int .i64 f.d.col) (.slice A2 k2 c2)) ?_
            rw [HPQ.out, ← HK2.out]
            exact ⟨A2, c2, rfl, dfok_put9 HD4.out HP4.out (by decide) (by decide) _ _ _ _ _ _ _ _ _, below_put9 HB4.out (Nat.le_refl _) _ _ _ _ _ _ _ _ _⟩
          | false =>
            have HPQ : Hid (parseFm xs = (zeroFm, 17)) := by
              unfold Hid
              have hnb : f.num ≤ f.base := by have := of_decide_eq_false HQ4.out; omega
              rw [HPT.out]
              simp only [if_pos hnb]
              rw [if_neg (by decide)]
            go_wp2
            go_step3
            exact ⟨rfl, 17, ⟨_, _, _, _, _, _, _, _, _, _, _, _, _, _, _, _, _, _, _, _, _, _, _, _, rfl⟩, HP4, HB4, HPQ⟩
        · have e1 : (D != 0) = true := by simpa using hz
          have HPQ : Hid (parseFm xs = (zeroFm, D)) := by
            unfold Hid
            have hno : ¬ (D = 0 ∧ f.num ≤ f.base) := fun z => hz z.1
            rw [HPT.out]
            simp only [if_neg hno, if_neg hz]
          clear hz
          go_wp2
          go_step3
          exact ⟨rfl, D, ⟨_, _, _, _, _, _, _, _, _, _, _, _, _, _, _, _, _, _, _, _, _, _, _, _, rfl⟩, HP3, HB3, HPQ⟩
  · rintro a' w' ⟨v, ⟨u0, u1, u3, u4, u6, u7, u8, u9, u10, u11, u12, u13, u14, u15, u16, u17, u18, u19, u20, u21, u22, u23, u24, u25, rfl⟩, HP, HB, HQ⟩
    obtain ⟨z0, z1, z2, z3, z4, z5, z6, z7, z8, lz⟩ := cells9 HP.out
    have zz := HP.out.frozen
    go_wp2
    refine ret92 Tryz.results12 (.inl rfl) rfl rfl rfl (put9 HP.out (.int .u64 0) (.int .u64 0) (.int .u64 0) (.int .u64 0) (.int .i64 0) (.int .i64 0) (.int .i64 0) (.int .i64 0) (.slice none 0 0)) ?_
    rw [HQ.out]
    exact ⟨none, 0, rfl, ⟨.nil, Nat.le_refl _, fun _ => rfl, Nat.zero_le _⟩, below_put9 HB.out (Nat.le_refl _) (.int .u64 0) (.int .u64 0) (.int .u64 0) (.int .u64 0) (.int .i64 0) (.int .i64 0) (.int .i64 0) (.int .i64 0) (.slice none 0 0)⟩
end Go.Proofs.YtcbdokocnjoilaaGreatDoor
