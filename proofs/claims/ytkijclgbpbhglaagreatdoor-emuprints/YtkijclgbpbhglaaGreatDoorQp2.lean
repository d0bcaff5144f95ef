/-
  The walk of the law EmuPrints.
-/
import Derived.Test.YtkijclgbpbhglaaGreatDoorQp1
import Derived.Test.YtkijclgbpbhglaaGreatDoorQa24
import Derived.Test.YtkijclgbpbhglaaGreatDoorQa4
import Derived.Test.YtkijclgbpbhglaaGreatDoorQa9
import Derived.Lib.MinMax
import Derived.Deep.DeepCutAuto
namespace Go.Proofs.YtkijclgbpbhglaaGreatDoor
set_option maxRecDepth 100000
open Go.ChangeShapes Go.WideShapes Go.ChangeAt Go.RowKit
set_option linter.unusedVariables false

theorem Own.whole {e : TypeId} {k : IntKind} {B : Nat} {w wr : World} {v : Value} {bs : List Int} (h : Own e k B w wr v bs) : ∃ A cap, v = .slice A bs.length cap ∧ (A = none → cap = 0) ∧ bs.length ≤ cap ∧ (bs = [] ∨ ∃ g more, A = some ⟨g, 0, none⟩ ∧ B ≤ g ∧ Whole wr g e (bs.map (Value.int k) ++ more)) := by
  rcases h.own.2 with ⟨rfl, h0⟩ | ⟨g, cap, cur, hv, hb, hg, hnc, hcm, hcs, htake⟩
  · exact ⟨none, 0, by rw [h0], fun _ => rfl, by omega, .inl (List.eq_nil_of_length_eq_zero h0)⟩
  · refine ⟨some ⟨g, 0, none⟩, cap, hv, fun q => by simp at q, by omega, .inr ⟨g, cur.toList.drop (bs.length * 1), rfl, hb, ?_⟩⟩
    unfold Whole
    rw [← htake, List.take_append_drop]
    simpa using hg
theorem Own.sl {e : TypeId} {k : IntKind} {B : Nat} {w wr : World} {v : Value} {bs : List Int} (h : Own e k B w wr v bs) : ∃ A n c, v = .slice A n c := by obtain ⟨A, cap, e, _⟩ := h.form; exact ⟨A, _, cap, e⟩
theorem wholes_ints {w : World} {g : Nat} {t : TypeId} {k : IntKind} {bs : List Int} {more : List Value} (h : Whole w g t (bs.map (Value.int k) ++ more)) : Ints k w (some ⟨g, 0, none⟩) bs := by
  refine .inr ⟨g, 0, rfl, fun i hi => ?_⟩
  rw [h.cell (0 + i), Nat.zero_add, List.getElem?_append_left (by simpa using hi), List.getElem?_map]
  simp [List.getD_eq_getElem?_getD, List.getElem?_eq_getElem hi]
theorem wholes_put {w : World} {g : Nat} {t : TypeId} {bs : List Int} {more : List Value} (h : Whole w g t (bs.map (Value.int .i64) ++ more)) {i : Nat} (hi : i < bs.length) (x : Int) : Whole (w.setCell ⟨g, i, none⟩ (.int .i64 x)) g t ((bs.set i x).map (Value.int .i64) ++ more) := by
  have := h.put i (.int .i64 x)
  rw [List.set_append_left _ _ (by simpa using hi), ← List.map_set] at this
  exact this
set_option maxHeartbeats 2000000 in
theorem emuPrints_walk (rows cols row : Int) (a : Option Addr) (len cap : Nat) (zs : List Int) (a1 : Option Addr) (len1 cap1 : Nat) (zs1 : List Int) (w : World)
    (hr : (Lit.int .i64 rows).wf = true) (hc : (Lit.int .i64 cols).wf = true) (hw0 : (Lit.int .i64 row).wf = true) (hrow : IsRow .u8 w a len cap zs) (hrow1 : IsRow .i64 w a1 len1 cap1 zs1) (hS : Spans w) :
    Calls Tryz.prog 7 #[.int .i64 rows, .int .i64 cols, .int .i64 row, .slice a len cap, .slice a1 len1 cap1] w fun e w' => e = .returned (.bool true) ∧ Below w.heap.size w w' := by
  obtain ⟨hz, hl, hn0, hmaxl⟩ := hrow.len
  obtain ⟨hz1, hl1, hn1, hmaxl1⟩ := hrow1.len
  have hbr := i64_bd hr
  have hbc := i64_bd hc
  have hbw := i64_bd hw0
  have HI := hide hrow.ints
  have HI1 := hide hrow1.ints
  have HBY : Hid (∀ x ∈ zs, 0 ≤ x ∧ x ≤ 255) := by unfold Hid; have := byte_of hrow.wf zs.length; rw [List.take_length] at this; exact this
  have HZ := hide hz
  have HZ1 := hide hz1
  have HN1 := hide hn1
  have HS := hide hS
  have hmax := hmaxl
  have hmax1 := hmaxl1
  unfold maxLen at hmax hmax1
  obtain ⟨C1, hC1⟩ : ∃ C1, IntKind.u64.wrap rows = C1 := ⟨_, rfl⟩
  obtain ⟨C2, hC2⟩ : ∃ C2, IntKind.u64.wrap cols = C2 := ⟨_, rfl⟩
  obtain ⟨C3, hC3⟩ : ∃ C3, IntKind.u64.wrap row = C3 := ⟨_, rfl⟩
  have p1 : 0 ≤ C1 := by rw [← hC1, IntKind.wrap_u64]; omega
  have p2 : 0 ≤ C2 := by rw [← hC2, IntKind.wrap_u64]; omega
  have p3 : 0 ≤ C3 := by rw [← hC3, IntKind.wrap_u64]; omega
  obtain ⟨x1, hx1, hx1b⟩ : ∃ x1 : Nat, C1.tmod 12 = (x1 : Int) ∧ x1 < 12 := ⟨(C1.tmod 12).toNat, by have := Int.tmod_nonneg 12 p1; omega, by have := Int.tmod_nonneg 12 p1; have := Int.tmod_lt_of_pos C1 (show (0 : Int) < 12 by omega); omega⟩
  obtain ⟨x2, hx2, hx2b⟩ : ∃ x2 : Nat, C2.tmod 19 = (x2 : Int) ∧ x2 < 19 := ⟨(C2.tmod 19).toNat, by have := Int.tmod_nonneg 19 p2; omega, by have := Int.tmod_nonneg 19 p2; have := Int.tmod_lt_of_pos C2 (show (0 : Int) < 19 by omega); omega⟩
  obtain ⟨R, hR⟩ : ∃ R : Nat, (1 : Int) + (x1 : Int) = (R : Int) := ⟨1 + x1, by omega⟩
  obtain ⟨C, hC⟩ : ∃ C : Nat, (2 : Int) + (x2 : Int) = (C : Int) := ⟨2 + x2, by omega⟩
  have r1 : 1 ≤ R := by omega
  have r2 : R ≤ 12 := by omega
  have c1 : 2 ≤ C := by omega
  have c2 : C ≤ 20 := by omega
  obtain ⟨rr, hrr, hrb⟩ : ∃ rr : Nat, C3.tmod (R : Int) = (rr : Int) ∧ rr < R := ⟨(C3.tmod (R : Int)).toNat, by have := Int.tmod_nonneg (R : Int) p3; omega, by have := Int.tmod_nonneg (R : Int) p3; have := Int.tmod_lt_of_pos C3 (show (0 : Int) < (R : Int) by omega); omega⟩
  have HRR := hide hrr
  clear hrow hrow1 hr hc hw0 hrr hz hz1 hn0 hn1 hS hmaxl hmaxl1 hbr hbc hbw
  go_enter Tryz.func7, Tryz.ntmps7
  go_wp2_with fail
  refine (enew_yes R C r1 (by omega) (by omega) (by omega) w HS.out).mono ?_
  rintro e w1 ⟨b, L, rfl, hm⟩
  have HM := hide hm
  clear hm hC1 hC2 hx1 hx2 hR hC p1 p2
  go_wp2_with (with_reducible refine wpList_val (o := ⟨some 49, _, _, _, _, _⟩) rfl (v := .int .u64 (rr : Int)) ?_ ?_)
  · exact exec_binop (v2 := .int .u64 (R : Int)) rfl rfl rfl rfl (run_rem_nat (P := Tryz.prog) w1 63 .u64 C3 R rr (by omega) HRR.out)
  clear hC3 p3
  obtain ⟨m, hm1, hm2, hm3, hm4⟩ : ∃ m : Nat, m ≤ len ∧ m ≤ 15 ∧ m < C ∧ (m = len ∨ m = 15 ∨ m + 1 = C) := ⟨min len (min 15 (C - 1)), by omega, by omega, by omega, by omega⟩
  go_loopw [13, 14] (fun v i wr => ∃ k : Nat, k ≤ m ∧ i = .int .i64 (k : Int) ∧ Own 5 .u8 w1.heap.size w1 wr v (letsE zs k)) (fun _ i _ => m - (intOf i).toNat)
  case atStart => exact ⟨0, Nat.zero_le _, rfl, Own.start (Nat.le_refl _)⟩
  case round =>
    obtain ⟨k, hk, rfl, hown⟩ := hrel
    have HO := hide hown
    clear hown
    obtain ⟨A0, n0, c0, rfl⟩ := HO.out.sl
    go_upto_region 8 with fail
    go_cut [64] (fun v wx => v = .bool (decide (k < m)) ∧ wx = wr)
    case first =>
      by_cases hkm : k < m
      · have g1 : (k : Int) < (len : Int) := by omega
        have g2 : (k : Int) < 15 := by omega
        have g3 : (k : Int) < (C : Int) - 1 := by omega
        go_wp2
        go_meet
        case rel => exact ⟨by rw [decide_eq_true hkm], rfl⟩
      · by_cases g1 : k < len
        · by_cases g2 : (k : Int) < 15
          · have g3 : ¬ (k : Int) < (C : Int) - 1 := by omega
            have g3' : decide ((k : Int) < (C : Int) - 1) = false := by simp; omega
            go_wp2
            go_meet
            case rel => exact ⟨by rw [decide_eq_false hkm], rfl⟩
          · have g2' : decide ((k : Int) < 15) = false := by simp; omega
            go_wp2
            go_meet
            case rel => exact ⟨by rw [decide_eq_false hkm], rfl⟩
        · have g1' : decide ((k : Int) < (len : Int)) = false := by simp; omega
          go_wp2
          go_meet
          case rel => exact ⟨by rw [decide_eq_false hkm], rfl⟩
    case rest =>
      obtain ⟨hv, hwc⟩ := hcut
      subst hv
      rw [hwc]
      clear hwc
      by_cases hkm : k < m
      · have hd : decide (k < m) = true := by simp [hkm]
        rw [hd]
        obtain ⟨bb, off, rfl, hcell, hblt⟩ := HI.out.at (i := k) (by rw [HZ.out]; omega)
        obtain ⟨y, hy⟩ : ∃ y, zs.getD k 0 = y := ⟨_, rfl⟩
        have hyb := HBY.out _ (getD_mem zs k (by rw [HZ.out]; omega))
        rw [hy] at hcell hyb
        have HNX := hide (letsE_next zs k y (by rw [HZ.out]; omega) hy)
        have HLL := hide (letsE_len zs k (by rw [HZ.out]; omega))
        have hcell2 : wr.cell? ⟨bb, off + k, none⟩ = some (.int .u8 y) := by rw [← hcell]; exact (HM.out.2.1.trans (HO.out.bel.mono HM.out.2.1.size)).cell (p := ⟨bb, off + k, none⟩) hblt
        have hmod : y.tmod 26 = y % 26 := Int.tmod_eq_emod_of_nonneg hyb.1
        have hlet : IntKind.u8.wrap (97 + y % 26) = letE y := by rw [IntKind.wrap_u8]; unfold letE; omega
        have HKM := hide hkm
        have g1 : k < len := by omega
        clear hy hcell hkm hd hyb
        go_wp2_with (at_builtin; refine stopw ?_)
        unfold Hid
        refine wpList_push elemB rfl _ _ rfl rfl rfl HO.out (by rw [HLL.out]; omega) (by omega) ?_
        intro v' w2 hown2
        go_wp2
        go_roundw
        case rel => exact ⟨k + 1, by have := HKM.out; omega, by have := HKM.out; go_num, by rw [HNX.out]; exact hown2⟩
        case measure => have := HKM.out; simp [intOf]; omega
      · have hd : decide (k < m) = false := by simp [hkm]
        rw [hd]
        obtain rfl : k = m := by omega
        obtain ⟨w3, rfl⟩ : ∃ w3, w3 = wr := ⟨_, rfl⟩
        obtain ⟨xs, hxs⟩ : ∃ xs, letsE zs k = xs := ⟨_, rfl⟩
        have HXR : Hid (∀ r ∈ xs, 97 ≤ r ∧ r ≤ 122) := by unfold Hid; rw [← hxs]; exact letsE_in zs k
        have HXB : Hid (Byte xs) := by unfold Hid; rw [← hxs]; exact letsE_byte zs k
        have hxl : xs.length = k := by rw [← hxs]; exact letsE_len zs k (by rw [HZ.out]; omega)
        rw [hxs] at HO
        obtain ⟨AX, cX, hsl, htX, hlX, hAX, hmX⟩ := (HO.out).typed (C := 0)
        rw [hxl] at hsl
        cases hsl
        have HX := hide htX
        have HXL := hide hxl
        have HB0 : Hid (Below w.heap.size w w3) := HM.out.2.1.trans (HO.out.bel.mono HM.out.2.1.size)
        have HE0 : Hid (Emu w3 b L R C (newE R C)) := HM.out.1.later HO.out.bel
        clear htX hxs hxl hd hkm hm4
        obtain ⟨n8, hn8, h8a, h8b⟩ : ∃ n8 : Nat, min (len1 : Int) 8 = (n8 : Int) ∧ n8 ≤ 8 ∧ n8 ≤ len1 := ⟨min len1 8, by omega, by omega, by omega⟩
        have e0 : (0 : Int) ≤ (n8 : Int) := by omega
        have e1 : (n8 : Int) ≤ (cap1 : Int) := by omega
        obtain ⟨ys, hys⟩ : ∃ ys, zs1.take n8 = ys := ⟨_, rfl⟩
        have HYL : Hid (ys.length = n8) := by unfold Hid; rw [← hys, List.length_take, HZ1.out]; omega
        have hiy : Ints .i64 (w3.alloc (.cells #[] 3)) a1 ys := by rw [← hys]; exact ((HI1.out.take n8).below HB0.out).alloc _
        have HIY := hide hiy
        clear hiy hys
        go_wp2_with (at_builtin; refine stopw ?_)
        unfold Hid
        refine wpList_cat elemInts rfl _ _ rfl rfl rfl (Own.empty w3 3 .i64) HIY.out HYL.out HN1.out (by simp; omega) (by omega) ?_
        intro v4 w4 hown4
        rw [List.nil_append] at hown4
        obtain ⟨A4, cap4, hv4, hA4, hl4, hw4⟩ := hown4.whole
        rw [HYL.out] at hv4 hl4
        subst hv4
        have HB4 : Hid (Below w3.heap.size w3 w4) := hown4.bel
        have HW4 := hide hw4
        have HA4 := hide hA4
        clear hown4 hw4 hA4 HIY
        go_wp2
        go_loopw [15] (fun i wr => ∃ j : Nat, j ≤ n8 ∧ i = .int .i64 (j : Int) ∧ (ys = [] ∨ ∃ g more, A4 = some ⟨g, 0, none⟩ ∧ w3.heap.size ≤ g ∧ Whole wr g 3 ((topsE ys j).map (Value.int .i64) ++ more)) ∧ Below w3.heap.size w3 wr) (fun i _ => n8 - (intOf i).toNat)
        case atStart => exact ⟨0, Nat.zero_le _, rfl, by rw [topsE_0]; exact HW4.out, HB4.out⟩
        case round =>
          obtain ⟨j, hj, rfl, hwj, hbj⟩ := hrel
          have HBJ := hide hbj
          clear hbj
          by_cases hlt : j < n8
          · rcases hwj with hnil | ⟨g, more, rfl, hg, hwg⟩
            · exfalso
              have := HYL.out
              rw [hnil] at this
              simp at this
              omega
            have hTA := topsE_at ys j (by rw [HYL.out]; exact hlt)
            have hTN := topsE_next ys j (by rw [HYL.out]; exact hlt)
            obtain ⟨y, hy⟩ : ∃ y, ys.getD j 0 = y := ⟨_, rfl⟩
            rw [hy] at hTA hTN
            have hcj : wr.cell? ⟨g, j, none⟩ = some (.int .i64 y) := by
              have := hwg.cell j
              rw [this, List.getElem?_append_left (by rw [List.length_map, topsE_len, HYL.out]; exact hlt), List.getElem?_map]
              rw [List.getD_eq_getElem?_getD] at hTA
              rw [List.getElem?_eq_getElem (by rw [topsE_len, HYL.out]; exact hlt)] at hTA ⊢
              simp at hTA ⊢
              exact hTA
            have hz := hwg.frozen
            have lg := hwg.lt
            obtain ⟨z, hzz⟩ : ∃ z, max y 0 = z := ⟨_, rfl⟩
            have HW5 : Hid (Whole (wr.setCell ⟨g, j, none⟩ (.int .i64 z)) g 3 ((topsE ys (j + 1)).map (Value.int .i64) ++ more)) := by unfold Hid; rw [← hTN, hzz]; exact wholes_put hwg (by rw [topsE_len, HYL.out]; exact hlt) z
            have HB5 : Hid (Below w3.heap.size w3 (wr.setCell ⟨g, j, none⟩ (.int .i64 z))) := HBJ.out.setCell hg _
            have HLT := hide hlt
            have HG0 := hide hg
            clear hwg hTA hTN hy hg
            go_wp2
            go_roundw
            case rel => exact ⟨j + 1, by have := HLT.out; omega, by have := HLT.out; go_num, .inr ⟨g, more, rfl, HG0.out, HW5.out⟩, HB5.out⟩
            case measure => have := HLT.out; simp [intOf]; omega
          · obtain rfl : j = n8 := by omega
            obtain ⟨w5, rfl⟩ : ∃ w5, w5 = wr := ⟨_, rfl⟩
            obtain ⟨cs, hcs⟩ : ∃ cs, ys.map (fun z => max z 0) = cs := ⟨_, rfl⟩
            have HCP : Hid (∀ z ∈ cs, 0 ≤ z) := by unfold Hid; rw [← hcs]; exact maxs_pos ys
            have HCL : Hid (cs.length = j) := by unfold Hid; rw [← hcs, List.length_map, HYL.out]
            have HIC : Hid (Ints .i64 w5 A4 cs) := by
              unfold Hid
              rcases hwj with hnil | ⟨g, more, rfl, -, hwg⟩
              · rw [← hcs, hnil]; exact Ints.nil
              · have := wholes_ints hwg
                rw [show j = ys.length from HYL.out.symm, topsE_all, hcs] at this
                exact this
            clear hwj hcs HW4
            go_wp2_with (at_builtin; refine stopw ?_)
            unfold Hid
            refine wpList_cat elemInts rfl _ _ rfl rfl rfl (Own.lit w5 3 .i64 [0] 1 rfl (by omega)) (HIC.out.alloc _) HCL.out HA4.out (by simp; omega) (by omega) ?_
            intro v6 w6 hown6
            obtain ⟨A6, cap6, hv6, ht6, -, -, -⟩ := hown6.typed (C := 0)
            obtain ⟨n9, hn9⟩ : ∃ n9, (([0] : List Int) ++ cs).length = n9 := ⟨_, rfl⟩
            rw [hn9] at hv6
            subst hv6
            have hn10 : n9 = j + 1 := by rw [← hn9, List.length_append, HCL.out]; simp; omega
            have HN9 : Hid ((0 :: cs).length = n9) := hn9
            have HT6 : Hid (IntsT 0 3 .i64 w6 A6 (0 :: cs)) := ht6
            have HB6 : Hid (Below w5.heap.size w5 w6) := hown6.bel
            have hn9b : n9 ≤ 9 := by omega
            have HN10 := hide hn10
            clear hown6 ht6 hn9 hn10
            obtain ⟨⟨pf, pg, pb⟩, hpz⟩ : ∃ P, turnN ⟨0, 0, 0⟩ (0 :: cs) = P := ⟨_, rfl⟩
            have HPZ := hide hpz
            have HPR : Hid (rightN ⟨pf, pg, pb⟩ = true) := by unfold Hid; rw [← hpz]; exact turnN_right _ _ (by decide)
            clear hpz
            go_wp2_with fail
            have hturn : Calls Tryz.prog 30 #[.agg #[.int .u8 (0 : Int), .int .u8 (0 : Int), .int .u8 (0 : Int)], .slice A6 n9 cap6] w6 (Penned (turnN ⟨0, 0, 0⟩ (0 :: cs)) w6) := turn_any 0 0 0 (right_ok (p := ⟨0, 0, 0⟩) (by decide)) A6 n9 cap6 (0 :: cs) w6 HT6.out.ints HN9.out (by omega)
            rw [HPZ.out] at hturn
            refine hturn.mono ?_
            rintro e w7 ⟨rfl, hb7⟩
            clear hturn
            have HB7 := hide hb7
            clear hb7
            go_wp2_with (at_builtin; refine stopw ?_)
            unfold Hid
            have hs1 : (w7.alloc (.cells #[.int .u8 (pf : Int), .int .u8 (pg : Int), .int .u8 (pb : Int)] 65)).heap.size = w7.heap.size + 1 := by simp
            have hs2 : ((w7.alloc (.cells #[.int .u8 (pf : Int), .int .u8 (pg : Int), .int .u8 (pb : Int)] 65)).alloc (.cells #[.int .i64 ((rr : Int) + 1), .int .i64 1] 3)).heap.size = w7.heap.size + 1 + 1 := by simp
            have hb8 : Below w7.heap.size w7 ((w7.alloc (.cells #[.int .u8 (pf : Int), .int .u8 (pg : Int), .int .u8 (pb : Int)] 65)).alloc (.cells #[.int .i64 ((rr : Int) + 1), .int .i64 1] 3)) := ((Below.refl _ _).alloc (Nat.le_refl _) _).alloc (by simp) _
            have hpx := (Whole.new w7 65 [.int .u8 (pf : Int), .int .u8 (pg : Int), .int .u8 (pb : Int)]).alloc (.cells #[.int .i64 ((rr : Int) + 1), .int .i64 1] 3)
            have hrx : IntsT 0 3 .i64 ((w7.alloc (.cells #[.int .u8 (pf : Int), .int .u8 (pg : Int), .int .u8 (pb : Int)] 65)).alloc (.cells #[.int .i64 ((rr : Int) + 1), .int .i64 1] 3)) (some ⟨w7.heap.size + 1, 0, none⟩) [(rr : Int) + 1, 1] := by have := IntsT.new (C := 0) (k := .i64) (w7.alloc (.cells #[.int .u8 (pf : Int), .int .u8 (pg : Int), .int .u8 (pb : Int)] 65)) 3 [(rr : Int) + 1, 1]; rwa [hs1] at this
            have hol := Own.lit ((w7.alloc (.cells #[.int .u8 (pf : Int), .int .u8 (pg : Int), .int .u8 (pb : Int)] 65)).alloc (.cells #[.int .i64 ((rr : Int) + 1), .int .i64 1] 3)) 3 .i64 [0] 1 rfl (by omega)
            rw [hs2] at hol
            obtain ⟨W8, hW8⟩ : ∃ W8, (w7.alloc (.cells #[.int .u8 (pf : Int), .int .u8 (pg : Int), .int .u8 (pb : Int)] 65)).alloc (.cells #[.int .i64 ((rr : Int) + 1), .int .i64 1] 3) = W8 := ⟨_, rfl⟩
            rw [hW8] at hs2 hb8 hpx hrx hol ⊢
            have HB57 : Hid (Below w5.heap.size w5 w7) := HB6.out.trans (HB7.out.mono HB6.out.size)
            have HB58 : Hid (Below w5.heap.size w5 W8) := HB57.out.trans (hb8.mono HB57.out.size)
            have HIC8 : Hid (Ints .i64 (W8.alloc (.cells #[.int .i64 0] 3)) A4 cs) := (HIC.out.below HB58.out).alloc _
            have HPX := hide hpx
            have HRX := hide hrx
            have HS2 := hide hs2
            clear hb8 hpx hrx hs1 hW8
            refine wpList_cat elemInts rfl _ _ rfl rfl rfl hol HIC8.out HCL.out HA4.out (by simp; omega) (by omega) ?_
            intro v9 w9 hown9
            obtain ⟨A9, cap9, hv9, ht9, -, -, -⟩ := hown9.typed (C := 0)
            rw [show (([0] : List Int) ++ cs).length = n9 from HN9.out] at hv9
            subst hv9
            have HT9 : Hid (IntsT 0 3 .i64 w9 A9 (0 :: cs)) := ht9
            have hb9 := hown9.bel
            rw [← HS2.out] at hb9
            have HB9 := hide hb9
            clear hown9 ht9 hol hb9 hs2
            obtain ⟨qE, hqE⟩ : ∃ q, w9.heap.size = q := ⟨_, rfl⟩
            obtain ⟨W10, hW10⟩ : ∃ W10, w9.alloc (.cells #[.int .i64 3, .int .i32 72, .slice (some ⟨w7.heap.size + 1, 0, none⟩) 2 2, .int .i64 3, .int .i32 109, .slice A9 n9 cap9] 56) = W10 := ⟨_, rfl⟩
            have hb10 : Below w9.heap.size w9 W10 := by rw [← hW10]; exact new1W _ _
            have hq10 : Whole W10 qE 56 [.int .i64 3, .int .i32 72, .slice (some ⟨w7.heap.size + 1, 0, none⟩) 2 2, .int .i64 3, .int .i32 109, .slice A9 n9 cap9] := by rw [← hW10, ← hqE]; exact Whole.new w9 56 [.int .i64 3, .int .i32 72, .slice (some ⟨w7.heap.size + 1, 0, none⟩) 2 2, .int .i64 3, .int .i32 109, .slice A9 n9 cap9]
            have HB810 : Hid (Below W8.heap.size W8 W10) := HB9.out.trans (hb10.mono HB9.out.size)
            have HEV : Hid (Evs 0 56 .i32 W10 (some ⟨qE, 0, none⟩) [⟨3, 72, [(rr : Int) + 1, 1]⟩, ⟨3, 109, 0 :: cs⟩]) := Evs.two hq10 rfl HN9.out (HRX.out.below HB810.out (Nat.zero_le _)) (HT9.out.below hb10 (Nat.zero_le _))
            have HB510 : Hid (Below w5.heap.size w5 W10) := HB58.out.trans (HB810.out.mono HB58.out.size)
            have HB310 : Hid (Below w3.heap.size w3 W10) := HBJ.out.trans (HB510.out.mono HBJ.out.size)
            have HE10 := hide (HE0.out.later HB310.out)
            have HX10 := hide (HX.out.below HB310.out (Nat.zero_le _))
            have HPX10 := hide (HPX.out.later HB810.out)
            have HB10 : Hid (Below w.heap.size w W10) := HB0.out.trans (HB310.out.mono HB0.out.size)
            have HW10 := hide hW10
            have HQE := hide hqE
            have HPZ2 : Hid (turnN zeroP (0 :: cs) = ⟨pf, pg, pb⟩) := HPZ.out
            have HEB : Hid (∀ x ∈ ([⟨3, 72, [(rr : Int) + 1, 1]⟩, ⟨3, 109, 0 :: cs⟩] : List Ev), EvB x) := by
              unfold Hid
              have := HN9.out
              intro x hx
              simp only [List.mem_cons, List.not_mem_nil, or_false] at hx
              rcases hx with rfl | rfl
              · exact ⟨by show (-2147483648 : Int) ≤ 72; omega, by show (72 : Int) ≤ 2147483647; omega, by simp⟩
              · exact ⟨by show (-2147483648 : Int) ≤ 109; omega, by show (109 : Int) ≤ 2147483647; omega, by show (0 :: cs).length ≤ _; omega⟩
            have HEN : Hid (∀ x ∈ ([⟨3, 72, [(rr : Int) + 1, 1]⟩, ⟨3, 109, 0 :: cs⟩] : List Ev), x.n.length ≤ 1000000) := by
              unfold Hid
              have := HN9.out
              intro x hx
              simp only [List.mem_cons, List.not_mem_nil, or_false] at hx
              rcases hx with rfl | rfl
              · simp
              · show (0 :: cs).length ≤ _; omega
            clear hb10 hq10 hW10 hqE
            go_wp2_with fail
            rw [HW10.out, HQE.out]
            refine (edo_any HE10.out (some ⟨qE, 0, none⟩) 2 2 [⟨3, 72, [(rr : Int) + 1, 1]⟩, ⟨3, 109, 0 :: cs⟩] HEV.out rfl (by omega) (B := 0) (fun _ _ => Nat.zero_le _) (Nat.zero_le _) HEB.out HEN.out).mono ?_
            rintro e w11 ⟨rfl, L11, ha⟩
            rw [do_two R C rr cs hrb (by omega) (by omega) (by omega) HCP.out _ rfl, HPZ2.out] at ha
            have HX11 := hide (HX10.out.turn HE10.out ha.ch (fun _ _ => Nat.zero_le _) (Nat.zero_le _) (by decide))
            have HPX11 := hide (HE10.out.keeps ha HPX10.out (by decide))
            have HE11 := hide ha.emu
            have HLW : Hid (Low w.heap.size b L) := HM.out.2.2
            have HB11 : Hid (Below w.heap.size w w11) := ha.ch.below HB10.out HB10.out.size HLW.out
            have HLW11 : Hid (Low w.heap.size b L11) := HLW.out.at ha HB10.out.size
            have HFP := hide (feed_print R C rr xs ⟨pf, pg, pb⟩ hrb (by omega) HPR.out HXR.out (by rw [HXL.out]; omega))
            clear ha
            go_wp2_with fail
            refine (efeed_any HE11.out A0 k c0 xs HX11.out HXL.out HXB.out (by omega) (B := 0) (fun _ _ => Nat.zero_le _) (Nat.zero_le _)).mono ?_
            rintro e w12 ⟨rfl, L12, ha⟩
            rw [HFP.out] at ha
            have HX12 := hide (HX11.out.turn HE11.out ha.ch (fun _ _ => Nat.zero_le _) (Nat.zero_le _) (by decide))
            have HPX12 := hide (HE11.out.keeps ha HPX11.out (by decide))
            have HE12 := hide ha.emu
            have HB12 : Hid (Below w.heap.size w w12) := ha.ch.below HB11.out HB11.out.size HLW11.out
            clear ha
            go_wp2_with fail
            refine (egrid_any HE12.out).mono ?_
            rintro e w13 ⟨G13, L13, M13, rfl, hg, hb, -⟩
            have HG13 : Hid (Grd w13 G13 L13 M13 R C (printG R C rr xs.length xs ⟨pf, pg, pb⟩)) := hg
            have HX13 := hide (HX12.out.below hb (Nat.zero_le _))
            have HPX13 := hide (HPX12.out.later hb)
            have HE13 := hide (HE12.out.later hb)
            have HB13 := hide (HB12.out.trans (hb.mono HB12.out.size))
            clear hg hb
            go_wp2
            go_loopw [18, 19, 20, 21, 22] (fun i _ _ _ _ wr => ∃ r : Nat, r ≤ R ∧ i = .int .i64 (r : Int) ∧ Below w13.heap.size w13 wr) (fun i _ _ _ _ _ => R - (intOf i).toNat)
            case atStart => exact ⟨0, Nat.zero_le _, rfl, Below.refl _ _⟩
            case round =>
              obtain ⟨r, hr, rfl, hbr⟩ := hrel
              have HBR := hide hbr
              clear hbr
              by_cases hlt : r < R
              · have HLT := hide hlt
                obtain ⟨w14, rfl⟩ : ∃ w14, w14 = wr := ⟨_, rfl⟩
                go_wp2
                go_loopw [19, 20, 21, 22] (fun i _ _ _ wr => ∃ c : Nat, c ≤ C ∧ i = .int .i64 (c : Int) ∧ Below w14.heap.size w14 wr) (fun i _ _ _ _ => C - (intOf i).toNat)
                case atStart => exact ⟨0, Nat.zero_le _, rfl, Below.refl _ _⟩
                case round =>
                  obtain ⟨c, hc, rfl, hbc⟩ := hrel
                  have HBC : Hid (Below w13.heap.size w13 wr) := HBR.out.trans (hbc.mono HBR.out.size)
                  have HBC0 := hide hbc
                  clear hbc
                  by_cases hlc : c < C
                  · have HLC := hide hlc
                    by_cases hrc : r = rr ∧ c < k
                    · have hre : ((r : Int) == (rr : Int)) = true := by simp [hrc.1]
                      have hck := hrc.2
                      obtain ⟨bb, off, rfl, hcell, hblt⟩ := (HX13.out.below HBC.out (Nat.zero_le _)).ints.at (i := c) (by rw [HXL.out]; exact hck)
                      obtain ⟨x, hx⟩ : ∃ x, xs.getD c 0 = x := ⟨_, rfl⟩
                      have hxb := HXR.out _ (getD_mem xs c (by rw [HXL.out]; exact hck))
                      have hat : atC (printG R C rr xs.length xs ⟨pf, pg, pb⟩) R C (r : Int) (c : Int) = (⟨x, 0, 0, 1, ⟨pf, pg, pb⟩⟩, true) := by rw [at_print R C rr xs _ r c hlt hlc (by omega), if_pos ⟨hrc.1, by rw [HXL.out]; exact hck⟩, hx]
                      rw [hx] at hcell hxb
                      have HAT := hide hat
                      have HCW := hide hcell
                      have HBL := hide hblt
                      have hwx : IntKind.i32.wrap x = x := by rw [IntKind.wrap_i32]; omega
                      have HXB2 := hide hxb
                      have hne : ∀ W : World, (binOp .neq 73 (.agg #[.int .i32 x, .int .i32 0, .int .i32 0, .int .u8 (1 : Int), .int .u8 (pf : Int), .int .u8 (pg : Int), .int .u8 (pb : Int)]) (.agg #[.int .i32 x, .int .i32 0, .int .i32 0, .int .u8 (1 : Int), .int .u8 (pf : Int), .int .u8 (pg : Int), .int .u8 (pb : Int)])).run Tryz.prog W = .ok (.bool false) W := fun W => by have := neqCell W x 0 0 1 pf pg pb x 0 0 1 pf pg pb; rw [eqC_self] at this; exact this
                      have HNE := hide hne
                      clear hx hat hcell hblt hxb hne hrc
                      go_wp2_with fail
                      refine (gat_any (HG13.out.later HBC.out) (by omega) (r : Int) (c : Int) x 0 0 1 pf pg pb true HAT.out).mono ?_
                      rintro e y1 ⟨rfl, hb1⟩
                      obtain ⟨q1, hq1⟩ : ∃ q, y1.heap.size = q := ⟨_, rfl⟩
                      obtain ⟨W1, hW1⟩ : ∃ W1, y1.alloc (.cells #[.int .i32 x, .int .i32 0, .int .i32 0, .int .u8 (1 : Int), .int .u8 (pf : Int), .int .u8 (pg : Int), .int .u8 (pb : Int)] 73) = W1 := ⟨_, rfl⟩
                      have hb1' : Below wr.heap.size wr W1 := by rw [← hW1]; exact hb1.alloc hb1.size _
                      have HX1 : Hid (Whole W1 q1 73 [.int .i32 x, .int .i32 0, .int .i32 0, .int .u8 (1 : Int), .int .u8 (pf : Int), .int .u8 (pg : Int), .int .u8 (pb : Int)]) := by unfold Hid; rw [← hW1, ← hq1]; exact Whole.new y1 73 [.int .i32 x, .int .i32 0, .int .i32 0, .int .u8 (1 : Int), .int .u8 (pf : Int), .int .u8 (pg : Int), .int .u8 (pb : Int)]
                      have HBY1 := hide hb1'
                      have HW1 := hide hW1
                      have HQ1 := hide hq1
                      clear hb1 hb1' hW1 hq1
                      go_wp2_with fail
                      rw [HW1.out, HQ1.out]
                      refine (blank_v 0 0 0 W1).mono ?_
                      rintro e y2 ⟨rfl, hb2⟩
                      obtain ⟨q2, hq2⟩ : ∃ q, y2.heap.size = q := ⟨_, rfl⟩
                      obtain ⟨W2, hW2⟩ : ∃ W2, y2.alloc (.cells #[.int .i32 32, .int .i32 0, .int .i32 0, .int .u8 (1 : Int), .int .u8 (0 : Int), .int .u8 (0 : Int), .int .u8 (0 : Int)] 73) = W2 := ⟨_, rfl⟩
                      have hb2' : Below W1.heap.size W1 W2 := by rw [← hW2]; exact hb2.alloc hb2.size _
                      have hne12 : q1 ≠ q2 := by have := HX1.out.lt; have := hb2.size; omega
                      have HX2 : Hid (Whole W2 q2 73 [.int .i32 32, .int .i32 0, .int .i32 0, .int .u8 (1 : Int), .int .u8 (0 : Int), .int .u8 (0 : Int), .int .u8 (0 : Int)]) := by unfold Hid; rw [← hW2, ← hq2]; exact Whole.new y2 73 [.int .i32 32, .int .i32 0, .int .i32 0, .int .u8 (1 : Int), .int .u8 (0 : Int), .int .u8 (0 : Int), .int .u8 (0 : Int)]
                      have HX12 := hide (HX1.out.later hb2')
                      have HBY2 : Hid (Below wr.heap.size wr W2) := HBY1.out.trans (hb2'.mono HBY1.out.size)
                      have HCW2 : Hid (W2.cell? ⟨bb, off + c, none⟩ = some (.int .u8 x)) := (HBY2.out.cell (p := ⟨bb, off + c, none⟩) HBL.out).trans HCW.out
                      have HBL2 : Hid (bb < W2.heap.size) := Nat.lt_of_lt_of_le HBL.out HBY2.out.size
                      have HPX2 := hide (HPX13.out.later (HBC.out.trans (HBY2.out.mono HBC.out.size)))
                      have hqw : w14.heap.size ≤ q2 := by have := HBC0.out.size; have := HBY1.out.size; have := hb2.size; omega
                      have HQW := hide hqw
                      have HW2 := hide hW2
                      have HQ2 := hide hq2
                      clear hb2 hb2' hW2 hq2 hqw
                      go_wp2
                      rw [HW2.out, HQ2.out]
                      obtain ⟨z0, z1, z2, lz⟩ := cells3 HPX2.out
                      obtain ⟨d0, d1, d2, d3, d4, d5, d6, ld⟩ := cells7 HX2.out
                      have hzd := HX2.out.frozen
                      have HBW2 : Hid (Below w14.heap.size w14 W2) := HBC0.out.trans (HBY2.out.mono HBC0.out.size)
                      refine wp_region_chainL (fun w' => Below W2.heap.size W2 w') 7 [(0, 0), (0, 1), (0, 2), (0, 3), (0, 4), (1, 5), (1, 6), (3, 7)] (by kernel_rfl) (by kernel_rfl) (by kernel_rfl) (fun _ _ _ _ _ h => h) ?_ ?_
                      · exact (Below.refl _ _).drewN 1
                      refine chainL_take (v := ?_) (by simp only [List.getElem?_toArray, List.getElem?_cons_zero]; rfl) (by rfl) (fun w hS => ?_) ?_
                      rotate_left
                      · go_simp <;> with_reducible rfl
                      simp only [Act.put, List.setIfInBounds_toArray, List.set_cons_zero, List.set_cons_succ]
                      refine chainL_take (v := ?_) (by simp only [List.getElem?_toArray, List.getElem?_cons_zero, List.getElem?_cons_succ]; rfl) (by rfl) (fun w hS => ?_) ?_
                      rotate_left
                      · go_simp <;> with_reducible rfl
                      simp only [Act.put, List.setIfInBounds_toArray, List.set_cons_zero, List.set_cons_succ]
                      refine chainL_take (v := ?_) (by simp only [List.getElem?_toArray, List.getElem?_cons_zero, List.getElem?_cons_succ]; rfl) (by rfl) (fun w hS => ?_) ?_
                      rotate_left
                      · go_simp <;> with_reducible rfl
                      simp only [Act.put, List.setIfInBounds_toArray, List.set_cons_zero, List.set_cons_succ]
                      refine chainL_take (v := ?_) (by simp only [List.getElem?_toArray, List.getElem?_cons_zero, List.getElem?_cons_succ]; rfl) (by rfl) (fun w hS => ?_) ?_
                      rotate_left
                      · have hcx := (hS.cell (p := ⟨bb, off + c, none⟩) HBL2.out).trans HCW2.out; go_simp <;> with_reducible rfl
                      simp only [Act.put, List.setIfInBounds_toArray, List.set_cons_zero, List.set_cons_succ]
                      refine chainL_take (v := ?_) (by simp only [List.getElem?_toArray, List.getElem?_cons_zero, List.getElem?_cons_succ]; rfl) (by rfl) (fun w hS => ?_) ?_
                      rotate_left
                      · go_simp <;> with_reducible rfl
                      simp only [Act.put, List.setIfInBounds_toArray, List.set_cons_zero, List.set_cons_succ]
                      refine chainL_alone (by simp only [List.getElem?_toArray, List.getElem?_cons_zero, List.getElem?_cons_succ]; rfl) ?_
                      intro K hK
                      go_wp2
                      refine hK.out _ _ ((Below.refl _ _).drewN 1) ?_
                      clear hK K
                      refine chainL_alone (by simp only [List.getElem?_toArray, List.getElem?_cons_zero, List.getElem?_cons_succ]; rfl) ?_
                      intro K hK
                      go_wp2
                      refine hK.out _ _ ((Below.refl _ _).drewN 1) ?_
                      clear hK K
                      refine chainL_late (by simp only [List.getElem?_toArray, List.getElem?_cons_zero, List.getElem?_cons_succ]; rfl) ?_
                      intro K hK
                      go_wp2
                      refine hK.out _ _ ?_
                      clear hK K
                      refine chainL_nil ?_
                      obtain ⟨g0, g1, g2, g3, g4, g5, g6, lg⟩ := cells7 HX12.out
                      have hneq := HNE.out
                      have HLC2 := HLC.out
                      go_wp2
                      go_roundw
                      case rel => exact ⟨c + 1, by have := HLC.out; omega, by have := HLC.out; go_num, ((((((((HBW2.out.setCell HQW.out _).setCell HQW.out _).setCell HQW.out _).setCell HQW.out _).setCell HQW.out _).setCell HQW.out _).setCell HQW.out _)).drewN 1⟩
                      case measure => have := HLC.out; simp [intOf]; omega
                    · by_cases hrq : r = rr
                      · have hre : ((r : Int) == (rr : Int)) = true := by simp [hrq]
                        have hck : ¬ c < k := fun q => hrc ⟨hrq, q⟩
                        clear hrq
                        have hat : atC (printG R C rr xs.length xs ⟨pf, pg, pb⟩) R C (r : Int) (c : Int) = (⟨32, 0, 0, 1, ⟨0, 0, 0⟩⟩, true) := by rw [at_print R C rr xs _ r c hlt hlc (by omega), if_neg (by rw [HXL.out]; exact hrc)]
                        have HAT := hide hat
                        have hne : ∀ W : World, (binOp .neq 73 (.agg #[.int .i32 32, .int .i32 0, .int .i32 0, .int .u8 (1 : Int), .int .u8 (0 : Int), .int .u8 (0 : Int), .int .u8 (0 : Int)]) (.agg #[.int .i32 32, .int .i32 0, .int .i32 0, .int .u8 (1 : Int), .int .u8 (0 : Int), .int .u8 (0 : Int), .int .u8 (0 : Int)])).run Tryz.prog W = .ok (.bool false) W := fun W => by have := neqCell W 32 0 0 1 0 0 0 32 0 0 1 0 0 0; rw [eqC_self] at this; exact this
                        clear hat hrc
                        go_wp2_with fail
                        refine (gat_any (HG13.out.later HBC.out) (by omega) (r : Int) (c : Int) 32 0 0 1 0 0 0 true HAT.out).mono ?_
                        rintro e y1 ⟨rfl, hb1⟩
                        obtain ⟨q1, hq1⟩ : ∃ q, y1.heap.size = q := ⟨_, rfl⟩
                        obtain ⟨W1, hW1⟩ : ∃ W1, y1.alloc (.cells #[.int .i32 32, .int .i32 0, .int .i32 0, .int .u8 (1 : Int), .int .u8 (0 : Int), .int .u8 (0 : Int), .int .u8 (0 : Int)] 73) = W1 := ⟨_, rfl⟩
                        have hb1' : Below wr.heap.size wr W1 := by rw [← hW1]; exact hb1.alloc hb1.size _
                        have HX1 : Hid (Whole W1 q1 73 [.int .i32 32, .int .i32 0, .int .i32 0, .int .u8 (1 : Int), .int .u8 (0 : Int), .int .u8 (0 : Int), .int .u8 (0 : Int)]) := by unfold Hid; rw [← hW1, ← hq1]; exact Whole.new y1 73 [.int .i32 32, .int .i32 0, .int .i32 0, .int .u8 (1 : Int), .int .u8 (0 : Int), .int .u8 (0 : Int), .int .u8 (0 : Int)]
                        have HBY1 := hide hb1'
                        have HW1 := hide hW1
                        have HQ1 := hide hq1
                        clear hb1 hb1' hW1 hq1
                        go_wp2_with fail
                        rw [HW1.out, HQ1.out]
                        refine (blank_v 0 0 0 W1).mono ?_
                        rintro e y2 ⟨rfl, hb2⟩
                        have HB2 : Hid (Below w14.heap.size w14 (y2.alloc (.cells #[.int .i32 32, .int .i32 0, .int .i32 0, .int .u8 (1 : Int), .int .u8 (0 : Int), .int .u8 (0 : Int), .int .u8 (0 : Int)] 73))) := HBC0.out.trans ((HBY1.out.trans ((hb2.alloc hb2.size _).mono HBY1.out.size)).mono HBC0.out.size)
                        obtain ⟨g0, g1, g2, g3, g4, g5, g6, lg⟩ := cells7 ((HX1.out.later hb2).alloc (.cells #[.int .i32 32, .int .i32 0, .int .i32 0, .int .u8 (1 : Int), .int .u8 (0 : Int), .int .u8 (0 : Int), .int .u8 (0 : Int)] 73))
                        clear hb2
                        go_wp2
                        go_roundw
                        case rel => exact ⟨c + 1, by have := HLC.out; omega, by have := HLC.out; go_num, HB2.out⟩
                        case measure => have := HLC.out; simp [intOf]; omega
                      · have hre : ((r : Int) == (rr : Int)) = false := by simp; omega
                        clear hrq
                        have hat : atC (printG R C rr xs.length xs ⟨pf, pg, pb⟩) R C (r : Int) (c : Int) = (⟨32, 0, 0, 1, ⟨0, 0, 0⟩⟩, true) := by rw [at_print R C rr xs _ r c hlt hlc (by omega), if_neg (by rw [HXL.out]; exact hrc)]
                        have HAT := hide hat
                        have hne : ∀ W : World, (binOp .neq 73 (.agg #[.int .i32 32, .int .i32 0, .int .i32 0, .int .u8 (1 : Int), .int .u8 (0 : Int), .int .u8 (0 : Int), .int .u8 (0 : Int)]) (.agg #[.int .i32 32, .int .i32 0, .int .i32 0, .int .u8 (1 : Int), .int .u8 (0 : Int), .int .u8 (0 : Int), .int .u8 (0 : Int)])).run Tryz.prog W = .ok (.bool false) W := fun W => by have := neqCell W 32 0 0 1 0 0 0 32 0 0 1 0 0 0; rw [eqC_self] at this; exact this
                        clear hat hrc
                        go_wp2_with fail
                        refine (gat_any (HG13.out.later HBC.out) (by omega) (r : Int) (c : Int) 32 0 0 1 0 0 0 true HAT.out).mono ?_
                        rintro e y1 ⟨rfl, hb1⟩
                        obtain ⟨q1, hq1⟩ : ∃ q, y1.heap.size = q := ⟨_, rfl⟩
                        obtain ⟨W1, hW1⟩ : ∃ W1, y1.alloc (.cells #[.int .i32 32, .int .i32 0, .int .i32 0, .int .u8 (1 : Int), .int .u8 (0 : Int), .int .u8 (0 : Int), .int .u8 (0 : Int)] 73) = W1 := ⟨_, rfl⟩
                        have hb1' : Below wr.heap.size wr W1 := by rw [← hW1]; exact hb1.alloc hb1.size _
                        have HX1 : Hid (Whole W1 q1 73 [.int .i32 32, .int .i32 0, .int .i32 0, .int .u8 (1 : Int), .int .u8 (0 : Int), .int .u8 (0 : Int), .int .u8 (0 : Int)]) := by unfold Hid; rw [← hW1, ← hq1]; exact Whole.new y1 73 [.int .i32 32, .int .i32 0, .int .i32 0, .int .u8 (1 : Int), .int .u8 (0 : Int), .int .u8 (0 : Int), .int .u8 (0 : Int)]
                        have HBY1 := hide hb1'
                        have HW1 := hide hW1
                        have HQ1 := hide hq1
                        clear hb1 hb1' hW1 hq1
                        go_wp2_with fail
                        rw [HW1.out, HQ1.out]
                        refine (blank_v 0 0 0 W1).mono ?_
                        rintro e y2 ⟨rfl, hb2⟩
                        have HB2 : Hid (Below w14.heap.size w14 (y2.alloc (.cells #[.int .i32 32, .int .i32 0, .int .i32 0, .int .u8 (1 : Int), .int .u8 (0 : Int), .int .u8 (0 : Int), .int .u8 (0 : Int)] 73))) := HBC0.out.trans ((HBY1.out.trans ((hb2.alloc hb2.size _).mono HBY1.out.size)).mono HBC0.out.size)
                        obtain ⟨g0, g1, g2, g3, g4, g5, g6, lg⟩ := cells7 ((HX1.out.later hb2).alloc (.cells #[.int .i32 32, .int .i32 0, .int .i32 0, .int .u8 (1 : Int), .int .u8 (0 : Int), .int .u8 (0 : Int), .int .u8 (0 : Int)] 73))
                        clear hb2
                        go_wp2
                        go_roundw
                        case rel => exact ⟨c + 1, by have := HLC.out; omega, by have := HLC.out; go_num, HB2.out⟩
                        case measure => have := HLC.out; simp [intOf]; omega
                  · obtain rfl : c = C := by omega
                    have hlt := HLT.out
                    clear hlc
                    go_wp2
                    go_roundw
                    case rel => exact ⟨r + 1, by have := HLT.out; omega, by have := HLT.out; go_num, HBC.out⟩
                    case measure => have := HLT.out; simp [intOf]; omega
              · obtain rfl : r = R := by omega
                have HEX := hide (HE13.out.later HBR.out)
                have HGX := hide (HG13.out.later HBR.out)
                have HBX := hide (HB13.out.trans (HBR.out.mono HB13.out.size))
                go_wp2_with fail
                refine (eknown_any wr HEX.out.sp).mono ?_
                rintro e y1 ⟨rfl, hb⟩
                have HGX1 := hide (HGX.out.later hb)
                have HEX1 := hide (HEX.out.later hb)
                have HBX1 := hide (HBX.out.trans (hb.mono HBX.out.size))
                clear hb
                go_wp2_with fail
                refine (row_any HGX1.out).mono ?_
                rintro e y2 ⟨rfl, rfl⟩
                rw [show (printG r C rr xs.length xs ⟨pf, pg, pb⟩).row = rr from rfl]
                go_wp2_with fail
                refine (col_any HGX1.out).mono ?_
                rintro e y2 ⟨rfl, rfl⟩
                rw [show (printG r C rr xs.length xs ⟨pf, pg, pb⟩).col = k from HXL.out]
                go_wp2_with fail
                refine (ewrap_any HEX1.out).mono ?_
                rintro e y2 ⟨rfl, rfl⟩
                go_wp2
                go_ret
                exact ⟨rfl, HBX1.out⟩
end Go.Proofs.YtkijclgbpbhglaaGreatDoor
