/-
  Contract: a frame's bytes (the program's Bytes).
-/
import Derived.Test.YtcbdokocnjoilaaGreatDoorFrPut
import Derived.Test.YtcbdokocnjoilaaGreatDoorFrBase
import Derived.Test.YtcbdokocnjoilaaGreatDoorH19
import Derived.Test.YtcbdokocnjoilaaGreatDoorH20
namespace Go.Proofs.YtcbdokocnjoilaaGreatDoor
set_option maxRecDepth 100000
open Go.ChangeShapes Go.WideShapes Go.ChangeAt Go.RowKit
set_option linter.unusedVariables false

theorem fieldA (a b c d : Value) (w : World) : (Instr.field 58 (.agg #[a, b, c, d]) 0).run Tryz.prog w = .ok (.agg #[a, b, c, d]) w := by kernel_rfl
theorem idxA (a b c d : Value) (w : World) : (Instr.index 56 (.agg #[a, b, c, d]) (.int .i64 0)).run Tryz.prog w = .ok a w := by kernel_rfl
theorem idxB (a b c d : Value) (w : World) : (Instr.index 56 (.agg #[a, b, c, d]) (.int .i64 1)).run Tryz.prog w = .ok b w := by kernel_rfl
theorem idxC (a b c d : Value) (w : World) : (Instr.index 56 (.agg #[a, b, c, d]) (.int .i64 2)).run Tryz.prog w = .ok c w := by kernel_rfl
theorem idxD (a b c d : Value) (w : World) : (Instr.index 56 (.agg #[a, b, c, d]) (.int .i64 3)).run Tryz.prog w = .ok d w := by kernel_rfl
/-- A frame's numbers, in the order in which they are told. -/
def nF (f : Fm) : Nat → Int
  | 0 => f.num
  | 1 => f.base
  | 2 => f.echo
  | _ => f.stamp
theorem idxF (f : Fm) (k : Nat) (hk : k < 4) (w : World) : (Instr.index 56 (.agg #[.int .u64 f.num, .int .u64 f.base, .int .u64 f.echo, .int .u64 f.stamp]) (.int .i64 (k : Int))).run Tryz.prog w = .ok (.int .u64 (nF f k)) w := by
  match k, hk with
  | 0, _ => exact idxA _ _ _ _ w
  | 1, _ => exact idxB _ _ _ _ w
  | 2, _ => exact idxC _ _ _ _ w
  | 3, _ => exact idxD _ _ _ _ w
theorem nF_bd {f : Fm} (h : FmOk f) (k : Nat) : ∃ N : Nat, nF f k = (N : Int) ∧ N < 18446744073709551616 := by
  match k with
  | 0 => exact u64_nat h.num
  | 1 => exact u64_nat h.base
  | 2 => exact u64_nat h.echo
  | _ + 3 => exact u64_nat h.stamp
/-- What is told ahead of the difference, so many numbers. -/
def frTo (f : Fm) : Nat → List Int
  | 0 => [70]
  | k + 1 => frTo f k ++ enc (nF f k).toNat
theorem frTo_len (f : Fm) : ∀ k, (frTo f k).length ≤ 1 + 10 * k
  | 0 => Nat.le_refl _
  | k + 1 => by
    have h := frTo_len f k
    have h2 := (enc_len (nF f k).toNat).2
    show (frTo f k ++ enc (nF f k).toNat).length ≤ _
    rw [List.length_append]
    omega
theorem frTo_four (f : Fm) : frTo f 4 ++ bytesDe f.d = bytesFm f := by
  show ((((([70] ++ enc f.num.toNat) ++ enc f.base.toNat) ++ enc f.echo.toNat) ++ enc f.stamp.toNat) ++ bytesDe f.d) = _
  unfold bytesFm
  simp only [List.append_assoc, List.cons_append, List.nil_append]
theorem Own.lower {e : TypeId} {k : IntKind} {B B' : Nat} {w wr : World} {v : Value} {bs : List Int} (h : Own e k B wr wr v bs) (hB : B' ≤ B) (hb : Below B' w wr) : Own e k B' w wr v bs := by
  refine ⟨⟨h.own.1, ?_⟩, hb, Nat.le_trans hB h.le⟩
  rcases h.own.2 with h0 | ⟨g, cap, cur, h1, h2, h3⟩
  · exact .inl h0
  · exact .inr ⟨g, cap, cur, h1, Nat.le_trans hB h2, h3⟩
theorem bytesDe_len {d : Df} (h : (bytesSs d.ss).length ≤ 300000) : (bytesDe d).length ≤ 300050 := by
  have := headB_len d
  rw [bytesDe_head, List.length_append]
  omega
set_option maxHeartbeats 4000000 in
theorem frbytes_any (C : Nat) (te t : TypeId) (f : Fm) (A : Option Addr) (n c : Nat) (w : World) (hok : FmOk f) (h : Sps C te t .i32 w A f.d.ss) (hC : C ≤ w.heap.size) (hn : f.d.ss.length = n) (hl : n ≤ 1000000) (hlb : ∀ s ∈ f.d.ss, LB s.cs) (hsz : (bytesSs f.d.ss).length ≤ 300000) (hS : Spans w) :
    Calls Tryz.prog 7 #[.agg #[.int .u64 f.num, .int .u64 f.base, .int .u64 f.echo, .int .u64 f.stamp, .int .i64 f.d.rows, .int .i64 f.d.cols, .int .i64 f.d.row, .int .i64 f.d.col, .slice A n c]] w (GaveX (checkFm f) (bytesFm f) w) := by
  have fA := fieldA (.int .u64 f.num) (.int .u64 f.base) (.int .u64 f.echo) (.int .u64 f.stamp)
  have hdl := bytesDe_len hsz
  have h4 := frTo_four f
  have hcf : checkFm f = if f.num ≤ f.base then 17 else if checkDe f.d = 0 then (if 65536 < (bytesFm f).length then 2 else 0) else checkDe f.d := rfl
  obtain ⟨X, hX⟩ : ∃ X, bytesFm f = X := ⟨_, rfl⟩
  obtain ⟨Z, hZ⟩ : ∃ Z, checkFm f = Z := ⟨_, rfl⟩
  rw [hX] at h4 hcf
  rw [hZ] at hcf
  rw [hX, hZ]
  clear hX hZ
  obtain ⟨W0, hW0⟩ : ∃ W0, w.alloc (.cells #[.int .u64 f.num, .int .u64 f.base, .int .u64 f.echo, .int .u64 f.stamp, .int .i64 f.d.rows, .int .i64 f.d.cols, .int .i64 f.d.row, .int .i64 f.d.col, .slice A n c] 27) = W0 := ⟨_, rfl⟩
  have HB0 : Hid (Below w.heap.size w W0) := by unfold Hid; rw [← hW0]; exact new1W _ _
  have HX0 : Hid (Whole W0 w.heap.size 27 [.int .u64 f.num, .int .u64 f.base, .int .u64 f.echo, .int .u64 f.stamp, .int .i64 f.d.rows, .int .i64 f.d.cols, .int .i64 f.d.row, .int .i64 f.d.col, .slice A n c]) := by unfold Hid; rw [← hW0]; exact Whole.new w 27 [.int .u64 f.num, .int .u64 f.base, .int .u64 f.echo, .int .u64 f.stamp, .int .i64 f.d.rows, .int .i64 f.d.cols, .int .i64 f.d.row, .int .i64 f.d.col, .slice A n c]
  have KEY := debytes_any C te t f.d A n c
  obtain ⟨Y, hY⟩ : ∃ Y, checkDe f.d = Y := ⟨_, rfl⟩
  unfold GaveDB at KEY
  rw [hY] at hcf KEY
  have HW0 := hide hW0
  have H4 := hide h4
  have HCF := hide hcf
  have HDL := hide hdl
  have HA := hide h
  have HS := hide hS
  clear hW0 h4 hcf hdl h hS hY
  obtain ⟨f0, f1, f2, f3, f4, f5, f6, f7, f8, lf⟩ := cells9 HX0.out
  go_enter Tryz.func7, Tryz.ntmps7
  go_wp2_with fail
  rw [HW0.out]
  refine (frordered_any f A n c W0).mono ?_
  rintro e w1 ⟨rfl, hb⟩
  have HX1 := hide (HX0.out.later hb)
  have HB1 := hide (HB0.out.trans (hb.mono HB0.out.size))
  clear hb f0 f1 f2 f3 f4 f5 f6 f7 f8 lf
  by_cases ho : f.base < f.num
  · have o1 : decide (f.base < f.num) = true := by simpa using ho
    have HC2 : Hid (Z = if Y = 0 then (if 65536 < X.length then 2 else 0) else Y) := by unfold Hid; rw [HCF.out, if_neg (by omega)]
    clear ho HCF
    rw [o1]
    obtain ⟨f0, f1, f2, f3, f4, f5, f6, f7, f8, lf⟩ := cells9 HX1.out
    go_wp2_with fail
    refine (KEY w1 (HA.out.below HB1.out hC) (Nat.le_trans hC HB1.out.size) hn hl hlb hsz (HS.out.below HB1.out)).mono ?_
    rintro e w3 ⟨v, rfl, ho⟩
    have HX3 := hide (HX1.out.later ho.bel)
    have HB3 := hide (HB1.out.trans (ho.bel.mono HB1.out.size))
    clear KEY f0 f1 f2 f3 f4 f5 f6 f7 f8 lf
    by_cases hy : Y = 0
    · have y1 : (Y != 0) = false := by simpa using hy
      rw [if_pos hy] at ho
      have HC3 : Hid (Z = if 65536 < X.length then 2 else 0) := by unfold Hid; rw [HC2.out, if_pos hy]
      obtain ⟨A2, c2, rfl, hi2, -, hz2, -⟩ := ho.form2
      obtain ⟨L2, hL2⟩ : ∃ L2, (bytesDe f.d).length = L2 := ⟨_, rfl⟩
      rw [hL2]
      have HL2 := hide hL2
      have HI2 := hide hi2
      have HZ2 := hide hz2
      clear ho hi2 hz2 hL2 hy HC2
      obtain ⟨B, hB⟩ : ∃ B, w3.heap.size = B := ⟨_, rfl⟩
      obtain ⟨w4, hw4⟩ : ∃ w4, (w3.alloc (.cells #[.int .u8 70] 5)).alloc (.cells #[.slice (some ⟨w3.heap.size, 0, none⟩) 1 1] 36) = w4 := ⟨_, rfl⟩
      have hb4 : Below B w3 w4 := by rw [← hw4, ← hB]; exact below2 w3 _ _
      have hp4 : Whole w4 (B + 1) 36 [.slice (some ⟨B, 0, none⟩) 1 1] := by rw [← hw4, ← hB]; exact whole_snd w3 _ 36 [.slice (some ⟨w3.heap.size, 0, none⟩) 1 1]
      have ho4 : Own 5 .u8 B w4 w4 (.slice (some ⟨B, 0, none⟩) 1 1) [70] := by
        rw [← hw4, ← hB]
        exact ((Own.lit w3 5 .u8 [70] 1 rfl (by omega)).later ((Below.refl _ _).alloc (Nat.le_refl _) _)).now
      have HP4 : Hid (Pt B (B + 1) w4 (frTo f 0)) := ⟨⟨_, hp4, ho4⟩, Nat.le_succ _⟩
      have HX4 : Hid (Whole w4 w.heap.size 27 [.int .u64 f.num, .int .u64 f.base, .int .u64 f.echo, .int .u64 f.stamp, .int .i64 f.d.rows, .int .i64 f.d.cols, .int .i64 f.d.row, .int .i64 f.d.col, .slice A n c]) := HX3.out.later (hB ▸ hb4)
      have HB34 := hide hb4
      have HWB : Hid (w.heap.size ≤ B) := by unfold Hid; rw [← hB]; exact HB3.out.size
      have HI2' : Hid (∀ wr, Below B w4 wr → Ints .u8 wr A2 (bytesDe f.d)) := fun wr hr => HI2.out.below (hB ▸ (hb4.trans hr))
      have HBB : Hid (∀ wr, Below B w4 wr → Below w.heap.size w wr) := fun wr hr => HB3.out.trans ((hb4.trans hr).mono HWB.out)
      have HW4 := hide hw4
      have HBE := hide hB
      clear hb4 hp4 ho4 hw4 hB
      go_upto_region 8 with fail
      rw [HW4.out]
      obtain ⟨f0, f1, f2, f3, f4, f5, f6, f7, f8, lf⟩ := cells9 HX4.out
      go_wp2_with fail
      refine (frhead_any f A n c w4).mono ?_
      rintro e w5 ⟨rfl, hb⟩
      have hb5 : Below B w4 w5 := hb.mono (by have := HP4.out.lt; omega)
      have HP5 := hide (HP4.out.later hb)
      have HA5 : Hid (Ap B (B + 1) w4 w5) := Ap.of_below hb (by have := HP4.out.lt; omega)
      clear hb hb5 f0 f1 f2 f3 f4 f5 f6 f7 f8 lf
      rw [HBE.out]
      go_wp2
      go_loopw [9, 27] (fun _ i wr => ∃ k : Nat, k ≤ 4 ∧ i = .int .i64 k ∧ Hid (Pt B (B + 1) wr (frTo f k)) ∧ Hid (Ap B (B + 1) w4 wr)) (fun _ i _ => 4 - (intOf i).toNat)
      case atStart => exact ⟨0, Nat.zero_le _, rfl, HP5, HA5⟩
      case round =>
        obtain ⟨k, hk, rfl, HPk, HAk⟩ := hrel
        by_cases hlt : k < 4
        · have ix := idxF f k hlt
          obtain ⟨N, hN, hN2⟩ := nF_bd hok k
          have HF : Hid (frTo f (k + 1) = frTo f k ++ enc N) := by
            unfold Hid
            show frTo f k ++ enc (nF f k).toNat = _
            rw [hN, Int.toNat_natCast]
          have hlk := frTo_len f k
          rw [hN] at ix
          clear hN
          go_wp2_with fail
          refine (frput_any B (B + 1) N (frTo f k) wr HPk.out hN2 (by omega)).mono ?_
          rintro e w6 ⟨rfl, hp6, ha6⟩
          have HP6 : Hid (Pt B (B + 1) w6 (frTo f (k + 1))) := by unfold Hid; rw [HF.out]; exact hp6
          have HA6 := hide (HAk.out.trans ha6)
          clear hp6 ha6
          go_wp2
          go_roundw
          case rel => exact ⟨k + 1, by omega, by go_num, HP6, HA6⟩
          case measure => simp [intOf]; omega
        · obtain rfl : k = 4 := by omega
          obtain ⟨v, hv, ho⟩ := HPk.out.ex
          have hlk := frTo_len f 4
          have hll := HDL.out
          rw [HL2.out] at hll
          have HI := hide (HI2'.out wr HAk.out.bel)
          obtain ⟨A3, c3, rfl, -⟩ := ho.form2
          obtain ⟨L3, hL3⟩ : ∃ L3, (frTo f 4).length = L3 := ⟨_, rfl⟩
          rw [hL3] at hlk hv ho
          have HL3 := hide hL3
          have HV := hide hv
          have HO := hide ho
          clear hv ho hL3
          have y0 : wr.cell? ⟨B + 1, 0, none⟩ = some (.slice A3 L3 c3) := HV.out.cell 0
          have yl := HV.out.lt
          go_wp2_with (at_builtin; refine stopw ?_)
          unfold Hid
          refine wpList_catG elemBytes rfl _ _ rfl rfl rfl HO.out HI.out HL2.out HZ2.out (by rw [HL3.out]; omega) (by omega) ?_
          intro v8 w8 hown st
          rw [H4.out] at hown
          have HV8 := hide (Others.of HO.out st (B + 1) 36 _ (by decide) HV.out)
          have HA8 := hide (HAk.out.trans (Ap.row (p := B + 1) HO.out hown.bel st))
          obtain ⟨A8, c8, hf8, -⟩ := hown.form2
          obtain ⟨L8, hL8⟩ : ∃ L8, X.length = L8 := ⟨_, rfl⟩
          rw [hL8] at hf8
          subst hf8
          have HO8 := hide hown.now
          have HL8 := hide hL8
          clear hown st hL8 y0 yl
          have y0 : w8.cell? ⟨B + 1, 0, none⟩ = some (.slice A3 L3 c3) := HV8.out.cell 0
          have yl := HV8.out.lt
          have yz := HV8.out.frozen 0
          have hst : Stay5 w8 (w8.setCell ⟨B + 1, 0, none⟩ (.slice A8 L8 c8)) := Stay5.put HV8.out
          have HO9 : Hid (Own 5 .u8 B (w8.setCell ⟨B + 1, 0, none⟩ (.slice A8 L8 c8)) (w8.setCell ⟨B + 1, 0, none⟩ (.slice A8 L8 c8)) (.slice A8 L8 c8) X) := hst.own HO8.out (by simp [World.setCell])
          have HV9 : Hid (Whole (w8.setCell ⟨B + 1, 0, none⟩ (.slice A8 L8 c8)) (B + 1) 36 [.slice A8 L8 c8]) := HV8.out.put 0 _
          have HA9 : Hid (Ap B (B + 1) w4 (w8.setCell ⟨B + 1, 0, none⟩ (.slice A8 L8 c8))) := HA8.out.trans (Ap.put (Nat.le_succ _))
          obtain ⟨w9, hw9⟩ : ∃ w9, w8.setCell ⟨B + 1, 0, none⟩ (.slice A8 L8 c8) = w9 := ⟨_, rfl⟩
          rw [hw9] at HO9 HV9 HA9
          have HW9 := hide hw9
          clear hst hw9
          go_upto_region 14 with fail
          rw [HW9.out]
          clear y0 yl yz
          have y0 : w9.cell? ⟨B + 1, 0, none⟩ = some (.slice A8 L8 c8) := HV9.out.cell 0
          have yl := HV9.out.lt
          by_cases hbig : 65536 < L8
          · have HZF : Hid (Z = 2) := by unfold Hid; rw [HC3.out, HL8.out, if_pos hbig]
            go_wp2
            go_ret2
            exact ⟨.slice none 0 0, by rw [HZF.out]; rfl, by rw [HZF.out, if_neg (by decide)]; exact Own.from0 (HBB.out _ HA9.out.bel)⟩
          · have HZF : Hid (Z = 0) := by unfold Hid; rw [HC3.out, HL8.out, if_neg hbig]
            go_wp2
            go_ret2
            exact ⟨_, by rw [HZF.out]; rfl, by rw [HZF.out, if_pos rfl]; exact HO9.out.lower HWB.out (HBB.out _ HA9.out.bel)⟩
    · have y1 : (Y != 0) = true := by simpa using hy
      rw [if_neg hy] at ho
      have HC3 : Hid (Z = Y) := by unfold Hid; rw [HC2.out, if_neg hy]
      have HYN := hide hy
      obtain ⟨A2, c2, rfl, -⟩ := ho.form2
      clear ho hy HC2
      go_wp2
      go_ret2
      exact ⟨.slice none 0 0, by rw [HC3.out]; rfl, by rw [HC3.out, if_neg HYN.out]; exact Own.from0 HB3.out⟩
  · have o1 : decide (f.base < f.num) = false := by simpa using ho
    have HC2 : Hid (Z = 17) := by unfold Hid; rw [HCF.out, if_pos (by omega)]
    clear ho HCF KEY
    rw [o1]
    go_wp2
    go_ret2
    exact ⟨.slice none 0 0, by rw [HC2.out]; rfl, by rw [HC2.out, if_neg (by decide)]; exact Own.from0 HB1.out⟩
end Go.Proofs.YtcbdokocnjoilaaGreatDoor
