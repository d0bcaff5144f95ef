/-
  Contract: the difference from one grid to another one (the document's).
-/
import Derived.Test.YtoddfaoifnkhlaaGreatDoorDLaw
import Derived.Test.YtoddfaoifnkhlaaGreatDoorDOf
import Derived.Test.YtoddfaoifnkhlaaGreatDoorB12
import Derived.Test.YtoddfaoifnkhlaaGreatDoorB7
import Derived.BigQuiet
import Derived.Deep.DeepCutAuto
import Derived.Deep.CutRange
namespace Go.Proofs.YtoddfaoifnkhlaaGreatDoor
set_option maxRecDepth 100000
open Go.ChangeShapes Go.WideShapes Go.ChangeAt Go.RowKit
set_option linter.unusedVariables false

theorem fst_no {x y : List Cel} {j : Nat} (h : neAt x y j = false) : fstI x y (j + 1) = fstI x y j := by simp [fstI, h]
theorem lst_no {x y : List Cel} {j : Nat} (h : neAt x y j = false) : lstI x y (j + 1) = lstI x y j := by simp [lstI, h]
theorem fst_one {x y : List Cel} {j : Nat} (h : neAt x y j = true) (h0 : fstI x y j < 0) : fstI x y (j + 1) = (j : Int) := by simp [fstI, h, h0]
theorem fst_two {x y : List Cel} {j : Nat} (h : neAt x y j = true) (h0 : ¬ fstI x y j < 0) : fstI x y (j + 1) = fstI x y j := by simp [fstI, h0]
theorem lst_yes {x y : List Cel} {j : Nat} (h : neAt x y j = true) : lstI x y (j + 1) = (j : Int) := by simp [lstI, h]
theorem span_none {x y : List Cel} {C r : Nat} (h : fstI x y C = -1) : spanAt x y C r = [] := by unfold spanAt; rw [if_pos (by omega)]
theorem span_some {x y : List Cel} {C r a b : Nat} (h1 : fstI x y C = (a : Int)) (h2 : lstI x y C = (b : Int)) : spanAt x y C r = [⟨(r : Int), (a : Int), (y.take (b + 1)).drop a⟩] := by unfold spanAt; rw [if_neg (by omega), h1, h2]; rfl
theorem cels_part {k : IntKind} {w : World} {g o : Nat} {Y : List Cel} (h : Cels k w (some ⟨g, o, none⟩) Y) (q j : Nat) : Cels k w (some ⟨g, o + j * 7, none⟩) ((Y.take q).drop j) := (((CelsT.of_cels (t := 0) h).take q).from j).cels
theorem arW {b C e : Nat} (h : b < C) (h2 : C ≤ 512) (he : b + 1 = e) : IntKind.i64.wrap ((b : Int) + 1) = (e : Int) := by rw [IntKind.wrap_i64]; omega
theorem arP {a b C c e : Nat} (h1 : a ≤ b) (h2 : b < C) (h3 : C ≤ c) (he : b + 1 = e) : (0 : Int) ≤ (a : Int) ∧ (a : Int) ≤ (e : Int) ∧ (e : Int) ≤ (c : Int) ∧ ¬ c = a ∧ a ≤ e ∧ e ≤ C := by omega
theorem arI (a : Nat) : ¬ (a : Int) < 0 := by omega
theorem arC {j C : Nat} (h : j < C) : j + 1 ≤ C := h
theorem arD {j C : Nat} (h : j ≤ C) (h1 : ¬ j < C) : j = C := by omega
theorem arM {j C : Nat} (h : j < C) : C - (j + 1) < C - j := by omega
set_option maxHeartbeats 4000000 in
theorem rdof_any {w : World} {a b : Gd} (A B : Option Addr) (R' C' R C ca cb : Nat) (ha : Lns w A a.ls) (hoa : GOk a R' C') (hb : Lns w B b.ls) (hob : GOk b R C) :
    Calls Tryz.prog 13 #[.agg #[.slice A R' ca, .int .i64 (a.row : Int), .int .i64 (a.col : Int)], .agg #[.slice B R cb, .int .i64 (b.row : Int), .int .i64 (b.col : Int)]] w (GaveDf 87 95 .i64 (ofD a b R C) w) := by
  have nC := @neqC
  have r1 := hob.r1
  have r2 := hob.r2
  have c1 := hob.c1
  have c2 := hob.c2
  obtain ⟨W0, hW0⟩ : ∃ W0, ((w.alloc (.cells #[.slice A R' ca, .int .i64 (a.row : Int), .int .i64 (a.col : Int)] 26)).alloc (.cells #[.slice B R cb, .int .i64 (b.row : Int), .int .i64 (b.col : Int)] 26)).alloc (.cells #[.int .i64 0, .int .i64 0, .int .i64 0, .int .i64 0, .slice none 0 0] 38) = W0 := ⟨_, rfl⟩
  have HB0 : Hid (Below w.heap.size w W0) := by unfold Hid; rw [← hW0]; exact three_newW w _ _ _
  have HX0 : Hid (Whole W0 w.heap.size 26 [.slice A R' ca, .int .i64 (a.row : Int), .int .i64 (a.col : Int)]) := by unfold Hid; rw [← hW0]; exact ((Whole.new w 26 [.slice A R' ca, .int .i64 (a.row : Int), .int .i64 (a.col : Int)]).alloc _).alloc _
  have HY0 : Hid (Whole W0 (w.heap.size + 1) 26 [.slice B R cb, .int .i64 (b.row : Int), .int .i64 (b.col : Int)]) := by unfold Hid; rw [← hW0]; exact (whole_snd w _ 26 [.slice B R cb, .int .i64 (b.row : Int), .int .i64 (b.col : Int)]).alloc _
  have HR0 : Hid (Whole W0 (w.heap.size + 1 + 1) 38 [.int .i64 0, .int .i64 0, .int .i64 0, .int .i64 0, .slice none 0 0]) := by unfold Hid; rw [← hW0]; exact whole_thd w _ _ 38 [.int .i64 0, .int .i64 0, .int .i64 0, .int .i64 0, .slice none 0 0]
  have HLA := hide (ha.below HB0.out)
  have HLB := hide (hb.below HB0.out)
  have HOA := hide hoa
  have HOB := hide hob
  have HC0 : Hid ((lAt b.ls 0).length = C) := (hob.each 0 r1).1
  have HW0 := hide hW0
  have hfit := hoa.fit r1 r2 c1 c2
  clear hW0 ha hb hoa hob
  go_enter Tryz.func13, Tryz.ntmps13
  go_wp2
  rw [HW0.out]
  refine rgH (fun w' => Below W0.heap.size W0 w') [(true, 0), (true, 1), (true, 2), (false, 3), (false, 4), (false, 5), (false, 6)] ((Below.refl _ _).drewN 1) ?_
  refine stH (h := ?_)
  refine stH (hy := fun w hS => by obtain ⟨f0, f1, f2, -⟩ := cells3 (HY0.out.later hS); go_simp <;> with_reducible rfl) (h := ?_)
  refine stH (h := ?_)
  obtain ⟨f0, f1, f2, lf⟩ := cells3 HY0.out.drew
  refine alH fun K hK => ?_
  go_wp2
  refine hK.out _ _ ((Below.refl _ _).drewN 1) ?_
  clear hK K
  refine alH fun K hK => ?_
  go_wp2_with fail
  refine (rgcols_any B R cb C b.row b.col b.ls W0.drew (HLB.out.drewN 1) HOB.out.len r1 HC0.out).mono ?_
  rintro e k1 ⟨rfl, hbk⟩
  have Bk1 : Below W0.heap.size W0 k1 := ((Below.refl W0.heap.size W0).drewN 1).trans hbk
  clear hbk
  go_wp2
  refine hK.out _ _ (Bk1) ?_
  clear hK K
  refine alH fun K hK => ?_
  go_wp2
  refine hK.out _ _ (Bk1) ?_
  clear hK K
  refine alH fun K hK => ?_
  go_wp2
  refine hK.out _ _ (Bk1) ?_
  clear hK K
  refine chainH_nil ?_
  clear f0 f1 f2 lf
  have HX1 := hide (HX0.out.later Bk1)
  have HY1 := hide (HY0.out.later Bk1)
  have HR1 := hide (HR0.out.later Bk1)
  have HB1 := hide (HB0.out.trans (Bk1.mono HB0.out.size))
  have HLA1 := hide (HLA.out.below Bk1)
  have HLB1 := hide (HLB.out.below Bk1)
  have hRQ := HR1.out.lt
  clear Bk1 HX0 HY0 HR0 HLA HLB
  obtain ⟨Q, hQ⟩ : ∃ Q, k1.heap.size = Q := ⟨_, rfl⟩
  obtain ⟨W1, hW1⟩ : ∃ W1, k1.alloc (.cells #[.int .i64 R, .int .i64 C, .int .i64 b.row, .int .i64 b.col, .slice none 0 0] 38) = W1 := ⟨_, rfl⟩
  have hb1 : Below k1.heap.size k1 W1 := by rw [← hW1]; exact new1W _ _
  have hD1 : Whole W1 Q 38 [.int .i64 R, .int .i64 C, .int .i64 b.row, .int .i64 b.col, .slice none 0 0] := by rw [← hW1, ← hQ]; exact Whole.new k1 38 [.int .i64 R, .int .i64 C, .int .i64 b.row, .int .i64 b.col, .slice none 0 0]
  have hQw : w.heap.size ≤ Q := by rw [← hQ]; exact HB1.out.size
  rw [hQ] at hRQ
  have HRQ := hide hRQ
  have HQW := hide hQw
  have HX2 := hide (HX1.out.later hb1)
  have HY2 := hide (HY1.out.later hb1)
  have HR2 := hide (HR1.out.later hb1)
  have HB2 := hide (HB1.out.trans (hb1.mono HB1.out.size))
  have HLA2 := hide (HLA1.out.below hb1)
  have HLB2 := hide (HLB1.out.below hb1)
  obtain ⟨d0, d1, d2, ld⟩ := cells3 HY1.out
  obtain ⟨g0, g1, g2, lg⟩ := cells3 HX1.out
  have HW1 := hide hW1
  have HQ := hide hQ
  clear hQ hW1 hb1 hRQ hQw
  go_wp2_with fail
  rw [HW1.out, HQ.out]
  refine (rgfit_any A R' C' ca a W1 HLA2.out HOA.out R C r1 r2 c1 c2).mono ?_
  obtain ⟨fg, hfg⟩ : ∃ fg, fitG a R C = fg := ⟨_, rfl⟩
  rw [hfg] at hfit ⊢
  have HFG := hide hfg
  have HFO := hide hfit
  rintro e k2 ⟨A8, cap8, rfl, hl8, hb8⟩
  obtain ⟨P8, hP8⟩ : ∃ P8, k2.heap.size = P8 := ⟨_, rfl⟩
  obtain ⟨W3, hW3⟩ : ∃ W3, k2.alloc (.cells #[.slice A8 R cap8, .int .i64 (fg.row : Int), .int .i64 (fg.col : Int)] 26) = W3 := ⟨_, rfl⟩
  have hb3 : Below W1.heap.size W1 W3 := by rw [← hW3]; exact hb8.alloc hb8.size _
  have HP3 : Hid (Whole W3 P8 26 [.slice A8 R cap8, .int .i64 (fg.row : Int), .int .i64 (fg.col : Int)]) := by unfold Hid; rw [← hW3, ← hP8]; exact Whole.new k2 26 [.slice A8 R cap8, .int .i64 (fg.row : Int), .int .i64 (fg.col : Int)]
  have HL3 : Hid (Lns W3 A8 fg.ls) := by unfold Hid; rw [← hW3]; exact hl8.alloc _
  have HLB3 := hide (HLB2.out.below hb3)
  have HY3 := hide (HY2.out.later hb3)
  have HR3 := hide (HR2.out.later hb3)
  have HB3 := hide (HB2.out.trans (hb3.mono HB2.out.size))
  have hD3 := hD1.later hb3
  have HU3 : Hid (Ud 38 87 95 .i64 w.heap.size Q Q W3 W3 R C b.row b.col (.slice none 0 0) (spansTo fg.ls b.ls C 0)) := ⟨hD3, OwnS.start (Nat.le_of_lt hD3.lt) HQW.out, Nat.le_refl _⟩
  have HW3 := hide hW3
  have HP8 := hide hP8
  clear hfg hfit hl8 hb8 hP8 hW3 hb3 hD3 hD1 d0 d1 d2 ld g0 g1 g2 lg HX1 HX2 HY1 HY2 HR1 HR2 HLA1 HLA2 HLB1 HLB2
  go_wp2
  rw [HW3.out, HP8.out]
  go_loopw [9] (fun i wr => ∃ (k : Nat) (v : Value), k ≤ R ∧ i = .int .i64 k ∧ Ud 38 87 95 .i64 w.heap.size Q Q W3 wr R C b.row b.col v (spansTo fg.ls b.ls C k) ∧ Hid (∀ t', t' ≠ 87 → t' ≠ 38 → Stays t' W3 wr)) (fun i _ => R - (intOf i).toNat)
  case atStart => exact ⟨0, _, Nat.zero_le _, rfl, HU3.out, fun t' _ _ => Stays.of_below (Below.refl _ _)⟩
  case round =>
    obtain ⟨k, v, hk, rfl, hu, HST⟩ := hrel
    obtain ⟨wo, rfl⟩ : ∃ wo, wo = wr := ⟨_, rfl⟩
    have HU := hide hu
    clear hu
    by_cases hlt : k < R
    · have HLX := hide (HFO.out.each k hlt).1
      have HLY := hide (HOB.out.each k hlt).1
      have hsn := spans_next fg.ls b.ls C k
      have HL8 := hide (HL3.out.keep (HST.out _ (by decide) (by decide)) (HST.out _ (by decide) (by decide)))
      have HL9 := hide (HLB3.out.keep (HST.out _ (by decide) (by decide)) (HST.out _ (by decide) (by decide)))
      have HP := hide (HP3.out.same (HST.out 26 (by decide) (by decide) _ _ HP3.out))
      have HY := hide (HY3.out.same (HST.out 26 (by decide) (by decide) _ _ HY3.out))
      obtain ⟨b8, A8', c8, rfl, lb8, hc8, hro8, hx8, -⟩ := HL8.out.at (i := k) (by rw [HFO.out.len]; exact hlt)
      obtain ⟨b9, A9', c9, rfl, lb9, hc9, hro9, hx9, -⟩ := HL9.out.at (i := k) (by rw [HOB.out.len]; exact hlt)
      have hcap := hro9.capOf
      obtain ⟨X, hX⟩ : ∃ X, lAt fg.ls k = X := ⟨_, rfl⟩
      obtain ⟨Y, hY⟩ : ∃ Y, lAt b.ls k = Y := ⟨_, rfl⟩
      rw [hX] at HLX hc8 hx8
      rw [hY] at HLY hc9 hx9 hcap
      rw [hX, hY] at hsn
      rw [HLX.out] at hc8
      rw [HLY.out] at hc9 hcap
      obtain ⟨gx, ox, rfl, lgx, -⟩ := hx8.at (i := 0) (by rw [HLX.out]; exact c1)
      obtain ⟨gy, oy, rfl, lgy, -⟩ := hx9.at (i := 0) (by rw [HLY.out]; exact c1)
      have HSN := hide hsn
      have HCX := hide hx8
      have HCY := hide hx9
      have HC8 := hide hc8
      have HC9 := hide hc9
      have HL8b := hide lb8
      have HL9b := hide lb9
      have HCAP := hide hcap
      clear hsn hX hY hc8 hc9 hx8 hx9 hro8 hro9 lb8 lb9 lgx lgy HL8 HL9 hcap
      go_wp2
      go_loopw [10, 11, 12] (fun f l c wy => ∃ j : Nat, j ≤ C ∧ c = .int .i64 j ∧ f = .int .i64 (fstI X Y j) ∧ l = .int .i64 (lstI X Y j) ∧ Below wo.heap.size wo wy) (fun _ _ c _ => C - (intOf c).toNat)
      case atStart => exact ⟨0, Nat.zero_le _, rfl, rfl, rfl, Below.refl _ _⟩
      case round =>
        obtain ⟨j, hjl, rfl, rfl, rfl, hby⟩ := hrel
        have HBy := hide hby
        clear hby
        by_cases hj : j < C
        · obtain ⟨f0, hf0⟩ : ∃ f0, fstI X Y j = f0 := ⟨_, rfl⟩
          obtain ⟨l0, hl0⟩ : ∃ l0, lstI X Y j = l0 := ⟨_, rfl⟩
          rw [hf0, hl0]
          have HF0 := hide hf0
          have HL0 := hide hl0
          obtain ⟨s0, s1, s2, ls⟩ := cells3 (HP.out.later HBy.out)
          obtain ⟨t0, t1, t2, lt⟩ := cells3 (HY.out.later HBy.out)
          have m8 := (HBy.out.cell (p := ⟨b8, k, none⟩) HL8b.out).trans HC8.out
          have m9 := (HBy.out.cell (p := ⟨b9, k, none⟩) HL9b.out).trans HC9.out
          have lm8 : b8 < wr.heap.size := Nat.lt_of_lt_of_le HL8b.out HBy.out.size
          have lm9 : b9 < wr.heap.size := Nat.lt_of_lt_of_le HL9b.out HBy.out.size
          obtain ⟨⟨r, s, m, u, ⟨f, g, bb⟩⟩, hc⟩ : ∃ q, cAt X j = q := ⟨_, rfl⟩
          obtain ⟨⟨r', s', m', u', ⟨f', g', bb'⟩⟩, hc2⟩ : ∃ q, cAt Y j = q := ⟨_, rfl⟩
          obtain ⟨u0, u1, u2, u3, u4, u5, u6, lu⟩ := (HCX.out.below HBy.out).sevenC j (by rw [HLX.out]; exact hj) hc
          obtain ⟨v0, v1, v2, v3, v4, v5, v6, lv⟩ := (HCY.out.below HBy.out).sevenC j (by rw [HLY.out]; exact hj) hc2
          have hne := neAt_of hc hc2
          have hq : eqC r s m (u : Int) (f : Int) (g : Int) (bb : Int) r' s' m' (u' : Int) (f' : Int) (g' : Int) (bb' : Int) = !(neAt X Y j) := by
            rw [eqC_cel, hne]
            by_cases q : (⟨r, s, m, u, ⟨f, g, bb⟩⟩ : Cel) = ⟨r', s', m', u', ⟨f', g', bb'⟩⟩ <;> simp [q]
          obtain ⟨bo, hbo⟩ : ∃ bo, neAt X Y j = bo := ⟨_, rfl⟩
          rw [hbo] at hq
          have HBO := hide hbo
          clear hbo hne hc hc2 hf0 hl0
          cases bo
          · have h1 := fst_no HBO.out
            have h2 := lst_no HBO.out
            have H1 := hide (h1.trans HF0.out)
            have H2 := hide (h2.trans HL0.out)
            clear h1 h2
            skip
            go_wp2
            go_quiet (fail)
            go_wp2
            go_roundw
            case rel => exact ⟨j + 1, arC hj, by go_num, by rw [H1.out], by rw [H2.out], HBy.out.drewN _⟩
            case measure => simp [intOf]; exact arM hj
          · have h2 := lst_yes HBO.out
            have H2 := hide h2
            clear h2
            by_cases hneg : f0 < 0
            · have h1 := fst_one HBO.out (by rw [HF0.out]; exact hneg)
              have H1 := hide h1
              clear h1
              skip
              go_wp2
              go_quiet (fail)
              go_wp2
              go_roundw
              case rel => exact ⟨j + 1, arC hj, by go_num, by rw [H1.out], by rw [H2.out], HBy.out.drewN _⟩
              case measure => simp [intOf]; exact arM hj
            · have h1 := (fst_two HBO.out (by rw [HF0.out]; exact hneg)).trans HF0.out
              have H1 := hide h1
              clear h1
              skip
              go_wp2
              go_quiet (fail)
              go_wp2
              go_roundw
              case rel => exact ⟨j + 1, arC hj, by go_num, by rw [H1.out], by rw [H2.out], HBy.out.drewN _⟩
              case measure => simp [intOf]; exact arM hj
        · have hjc := arD hjl hj
          subst hjc
          obtain ⟨wx, rfl⟩ : ∃ wx, wx = wr := ⟨_, rfl⟩
          have HUx := hide (HU.out.later HBy.out)
          have HSx : Hid (∀ t', t' ≠ 87 → t' ≠ 38 → Stays t' W3 wx) := fun t' q1 q2 => (HST.out t' q1 q2).trans (Stays.of_below HBy.out)
          rcases fl_is X Y j with ⟨h1, h2, -⟩ | ⟨a0, b0, h1, h2, h3, h4, -⟩
          · have HNX : Hid (spansTo fg.ls b.ls j (k + 1) = spansTo fg.ls b.ls j k) := by unfold Hid; rw [HSN.out, span_none h1, List.append_nil]
            rw [h1, h2]
            clear h1 h2
            go_wp2
            go_roundw
            case rel => exact ⟨k + 1, _, hlt, by go_num, by rw [HNX.out]; exact HUx.out, HSx⟩
            case measure => simp [intOf]; exact arM hlt
          · have HNX : Hid (spansTo fg.ls b.ls j (k + 1) = spansTo fg.ls b.ls j k ++ [⟨(k : Int), (a0 : Int), (Y.take (b0 + 1)).drop a0⟩]) := by unfold Hid; rw [HSN.out, span_some h1 h2]
            rw [h1, h2]
            have hai := arI a0
            obtain ⟨e0, he0⟩ : ∃ e0, b0 + 1 = e0 := ⟨_, rfl⟩
            obtain ⟨p1, p2, p3, p4, p5, p6⟩ := arP h3 h4 HCAP.out he0
            have hw := arW h4 c2 he0
            rw [he0] at HNX
            have hec := p6
            clear he0
            have HBx := hide (HY.out.later HBy.out)
            have HCb := hide ((HBy.out.cell (p := ⟨b9, k, none⟩) HL9b.out).trans HC9.out)
            have HLb : Hid (b9 < wx.heap.size) := Nat.lt_of_lt_of_le HL9b.out HBy.out.size
            have HCP := hide (cels_part (HCY.out.below HBy.out) e0 a0)
            obtain ⟨m, hm⟩ : ∃ m, e0 - a0 = m := ⟨_, rfl⟩
            obtain ⟨cm, hcm⟩ : ∃ cm, c9 - a0 = cm := ⟨_, rfl⟩
            have HSL := hide (span_len HLY.out p6 hm)
            have HML : Hid (([] : List Cel).length + m ≤ 1000000) := by
              have h9 : m ≤ j := by rw [← hm]; exact Nat.le_trans (Nat.sub_le _ _) hec
              show 0 + m ≤ 1000000
              rw [Nat.zero_add]
              exact Nat.le_trans h9 (Nat.le_trans c2 (by decide))
            have HM := hide hm
            have HCM := hide hcm
            obtain ⟨A3, c3, rfl⟩ := HUx.out.slice
            obtain ⟨kn, hkn⟩ : ∃ kn, (spansTo fg.ls b.ls j k).length = kn := ⟨_, rfl⟩
            have HKL := hide (spans_le HFO.out HOB.out k hlt)
            rw [hkn] at HUx
            clear hkn hm hcm h1 h2 h3 h4
            go_upto_region 16 with fail
            refine rgL (fun w' => Below wx.heap.size wx w') 17 [(0, 2), (0, 3), (0, 7), (0, 10), (0, 11), (0, 12), (0, 0), (0, 5), (0, 1), (0, 6), (0, 8), (0, 9), (0, 13), (1, 4), (1, 14), (1, 15), (1, 16), (3, 17), (3, 18), (3, 19)] ((Below.refl _ _).drewN 1) ?_
            obtain ⟨w7, hw7⟩ : ∃ w7, wx.drew = w7 := ⟨_, rfl⟩
            have B7 : Below wx.heap.size wx w7 := by rw [← hw7]; exact (Below.refl _ _).drewN 1
            have HU7 := hide (HUx.out.later B7)
            have HC7 := hide (HCP.out.below B7)
            rw [hw7]
            clear hw7
            iterate 8 refine stL (h := ?_)
            refine stL (hy := fun w hS => by obtain ⟨f0, f1, f2, f3, f4, -⟩ := cells5 (HUx.out.out.later hS); go_simp <;> with_reducible rfl) (h := ?_)
            refine stL (hy := fun w hS => by obtain ⟨f0, f1, f2, -⟩ := cells3 (HBx.out.later hS); go_simp <;> with_reducible rfl) (h := ?_)
            refine stL (h := ?_)
            refine stL (hy := fun w hS => by have f9 := (hS.cell HLb.out).trans HCb.out; go_simp <;> with_reducible rfl) (h := ?_)
            refine stL (v := .slice (some ⟨gy, oy + a0 * 7, none⟩) m cm) (hy := fun w hS => by rw [← HM.out, ← HCM.out]; go_simp) (h := ?_)
            refine alL fun K hK => ?_
            go_wp2
            refine hK.out _ _ (B7.alloc B7.size _) ?_
            clear hK K
            refine alL fun K hK => ?_
            go_wp2_with (at_builtin; refine stopw ?_)
            unfold Hid
            refine wpList_catC elemLC rfl _ _ rfl rfl rfl (OwnC.empty w7 95 .i64) (HC7.out.alloc _) HSL.out (fun h => by cases h) HML.out (by decide) ?_
            intro v8 k8 hown
            rw [List.nil_append] at hown
            obtain ⟨A8', c8', rfl, hct, hn8, hz8, -⟩ := hown.typed (C := w.heap.size)
            rw [HSL.out] at hn8 ⊢
            have B8 : Below wx.heap.size wx k8 := B7.trans (hown.bel.mono B7.size)
            have HU8 := hide (HUx.out.later B8)
            have HCT := hide hct
            clear hct hown
            go_wp2
            refine hK.out _ _ B8 ?_
            clear hK K
            refine alL fun K hK => ?_
            go_wp2
            refine hK.out _ _ (B8) ?_
            clear hK K
            refine alL fun K hK => ?_
            go_wp2
            refine hK.out _ _ (B8.alloc B8.size _) ?_
            clear hK K
            refine laL fun K hK => ?_
            go_wp2_with (at_builtin; refine stopw ?_)
            unfold Hid
            refine wpList_pushS elemRSp (k : Int) (a0 : Int) A8' c8' ((Y.take e0).drop a0) m HSL.out HCT.out hn8 hz8 rfl _ _ rfl rfl rfl HU8.out.own HKL.out (by decide) (by decide) ?_
            intro v2 w2 hown2 hst2 hbl2
            obtain ⟨A5, n5, c5, rfl⟩ := hown2.slice
            have HUN := hide (Ud.grow (HU8.out.out.alloc _) HU8.out.le hown2 hst2 (by decide) (by decide))
            have HQ2 := hide ((HU8.out.out.alloc (.cells #[.int .i64 (k : Int), .int .i64 (a0 : Int), .slice A8' m c8'] 87)).same (hst2 _ (by decide) _ _ (HU8.out.out.alloc (.cells #[.int .i64 (k : Int), .int .i64 (a0 : Int), .slice A8' m c8'] 87))))
            have HSN2 : Hid (∀ t', t' ≠ 87 → t' ≠ 38 → Stays t' W3 (w2.setCell ⟨Q, 4, none⟩ (.slice A5 n5 c5))) := fun t' q1 q2 => ((HSx.out t' q1 q2).trans (Stays.of_below (B8.alloc B8.size _))).trans ((hst2 t' q1).trans (Stays.put HQ2.out q2))
            clear hown2 hst2 hbl2
            go_wp2
            refine hK.out _ _ ?_
            clear hK K
            refine laL fun K hK => ?_
            go_wp2
            refine hK.out _ _ ?_
            clear hK K
            have hfz := HQ2.out.frozen
            obtain ⟨d0, d1, d2, d3, d4, ld⟩ := cells5 HQ2.out
            refine laL fun K hK => ?_
            go_wp2
            refine hK.out _ _ ?_
            clear hK K
            refine chainL_nil ?_
            go_wp2
            go_roundw
            case rel => exact ⟨k + 1, _, hlt, by go_num, by rw [HNX.out]; exact HUN.out, HSN2⟩
            case measure => simp [intOf]; exact arM hlt
    · have hkc := arD hk hlt
      subst hkc
      obtain ⟨A3, c3, rfl⟩ := HU.out.slice
      obtain ⟨mm, hmm⟩ : ∃ mm, (spansTo fg.ls b.ls C k).length = mm := ⟨_, rfl⟩
      have HR := hide (HR3.out.below HU.out.own.bel HRQ.out)
      have HD := hide (HU.out.done (d := ofD a b k C) HB3.out HQW.out (by unfold ofD; rw [HFG.out]) HR.out (Nat.le_trans (Nat.le_succ _) (Nat.le_succ _)) (by decide) (by decide) (.int .i64 (k : Int)) (.int .i64 (C : Int)) (.int .i64 b.row) (.int .i64 b.col) (.slice A3 mm c3))
      rw [hmm] at HU HD
      have HP := hide (put5 HR.out (.int .i64 (k : Int)) (.int .i64 (C : Int)) (.int .i64 b.row) (.int .i64 b.col) (.slice A3 mm c3))
      obtain ⟨g0, g1, g2, g3, g4, lg⟩ := cells5 HU.out.out
      obtain ⟨z0, z1, z2, z3, z4, lr⟩ := cells5 HR.out
      have fr := HR.out.frozen
      clear hmm
      go_wp2
      obtain ⟨A4, c4, e4, h5, h6⟩ := HD.out
      exact retD1 Tryz.results13 rfl rfl HP.out ⟨A4, c4, by rw [e4]; rfl, h5, h6⟩
end Go.Proofs.YtoddfaoifnkhlaaGreatDoor
