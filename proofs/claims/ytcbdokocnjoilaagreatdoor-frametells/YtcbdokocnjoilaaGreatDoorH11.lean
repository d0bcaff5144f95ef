/-
  Contracts and plain mathematics of RnTake4, BRdr3, RnRef3, RnRep, LRef3, LPut, LRef4, LV, LMath2, GMath.
-/
import Derived.Test.YtcbdokocnjoilaaGreatDoorH10
import Derived.Test.YtcbdokocnjoilaaGreatDoorH4
import Derived.Test.YtcbdokocnjoilaaGreatDoorH6
import Derived.Deep.DeepCutAuto
import Derived.Deep.CutBlock
import Derived.Test.YtcbdokocnjoilaaGreatDoorH2
import Derived.Test.YtcbdokocnjoilaaGreatDoorH7
import Derived.Test.YtcbdokocnjoilaaGreatDoorH5
import Derived.Lib.MinMax
import Derived.Test.YtcbdokocnjoilaaGreatDoorH1
namespace Go.Proofs.YtcbdokocnjoilaaGreatDoor
set_option maxRecDepth 100000
set_option linter.unusedVariables false
set_option maxHeartbeats 8000000
section
open Go.ChangeShapes Go.WideShapes Go.ChangeAt Go.RowKit
theorem spans_rd {w : World} {g : Nat} {xs : List Int} {s : Nat × Int} (hS : Spans w) (h : RdS w g xs s) : 0 ≠ g := by
  obtain ⟨t, -, hr, -⟩ := h
  obtain ⟨A, c, hw, -⟩ := hr.ex
  rintro rfl
  have h1 := hS 1 (.int .i32 31) rfl
  rw [Nat.zero_add, hw.cell 1] at h1
  cases h1
theorem Only.spans {g : Nat} {w w' : World} (h : Only g w w') (hS : Spans w) (hg : 0 ≠ g) : Spans w' := fun j v hv => by
  have := hS j v hv
  rw [← this]
  exact World.cell?_of_block (w := w) (World.grownBy.block h 0 hS.size (fun e => hg (by cases e; rfl)))
theorem Spans.putq {w : World} {q i : Nat} (hS : Spans w) (hq : 0 ≠ q) (x : Value) : Spans (w.setCell ⟨q, i, none⟩ x) := (Only.put (g := q) (w := w) i x).spans hS hq
/-- What is left of a reader, and a cell. -/
def GivesC (g : Nat) (w : World) (c : Cel) (xs : List Int) (s : Nat × Int) (e : Ending) (w' : World) : Prop := e = .returned (.agg #[.int .i32 c.r, .int .i32 c.m, .int .i32 c.n, .int .u8 (c.w : Int), .int .u8 (c.p.f : Int), .int .u8 (c.p.g : Int), .int .u8 (c.p.b : Int)]) ∧ Only g w w' ∧ RdS w' g xs s
/-- The state behind a cell: what is wrong with it is told behind all of its numbers. -/
def oneS (x : (Nat × Int) × Cel × Bool) : Nat × Int := (x.1.1, if x.1.2 = 0 ∧ (x.2.2 = false ∨ rightC x.2.1 = false) then 3 else x.1.2)
theorem oneS_good {t : Nat} {E : Int} {c : Cel} (h : rightC c = true) : oneS ((t, E), c, true) = (t, E) := by unfold oneS; simp [h]
theorem oneS_bad {t : Nat} {E : Int} {c : Cel} {ok : Bool} (h : ok = false ∨ rightC c = false) : oneS ((t, E), c, ok) = (t, fEr E 3) := by unfold oneS fEr; simp [h]
theorem only_put7 {g q : Nat} {w w1 : World} (h : Only g w w1) (hq : w.heap.size ≤ q) (x0 x1 x2 x3 x4 x5 x6 : Value) : Only g w (((((((w1.setCell ⟨q, 0, none⟩ x0).setCell ⟨q, 1, none⟩ x1).setCell ⟨q, 2, none⟩ x2).setCell ⟨q, 3, none⟩ x3).setCell ⟨q, 4, none⟩ x4).setCell ⟨q, 5, none⟩ x5).setCell ⟨q, 6, none⟩ x6) :=
  only_putq (only_putq (only_putq (only_putq (only_putq (only_putq (only_putq h hq _) hq _) hq _) hq _) hq _) hq _) hq _
theorem rds_put7 {w : World} {g q : Nat} {xs : List Int} {s : Nat × Int} {y0 y1 y2 y3 y4 y5 y6 : Value} (h : RdS w g xs s) (hw : Whole w q 105 [y0, y1, y2, y3, y4, y5, y6]) (hq : g ≠ q) (x0 x1 x2 x3 x4 x5 x6 : Value) : RdS (((((((w.setCell ⟨q, 0, none⟩ x0).setCell ⟨q, 1, none⟩ x1).setCell ⟨q, 2, none⟩ x2).setCell ⟨q, 3, none⟩ x3).setCell ⟨q, 4, none⟩ x4).setCell ⟨q, 5, none⟩ x5).setCell ⟨q, 6, none⟩ x6) g xs s :=
  ((((((h.putq hw (by decide) hq).putq (hw.put 0 _) (by decide) hq).putq ((hw.put 0 _).put 1 _) (by decide) hq).putq (((hw.put 0 _).put 1 _).put 2 _) (by decide) hq).putq ((((hw.put 0 _).put 1 _).put 2 _).put 3 _) (by decide) hq).putq (((((hw.put 0 _).put 1 _).put 2 _).put 3 _).put 4 _) (by decide) hq).putq ((((((hw.put 0 _).put 1 _).put 2 _).put 3 _).put 4 _).put 5 _) (by decide) hq
theorem one_0 {xs : List Int} {s : Nat × Int} {s1 s2 : Nat × Int} {p : Pn} (h1 : upD xs s 2 5 = (s1, 0)) (h2 : penD xs s1 = (s2, p)) : oneD xs s = (s2, ⟨0, 0, 0, 0, p⟩, true) := by
  unfold oneD
  simp only [h1, h2, if_true]
theorem one_n {xs : List Int} {s : Nat × Int} {s1 s2 s3 s4 s5 : Nat × Int} {p : Pn} {d : Nat} {r k m n : Int} {ok : Bool} (hd : ¬ d = 0) (h1 : upD xs s 2 5 = (s1, (d : Int))) (h2 : penD xs s1 = (s2, p)) (h3 : upD xs s2 1114111 5 = (s3, r)) (h4 : upD xs s3 2 6 = (s4, k)) (h5 : marksD xs s4 k = (s5, m, n, ok)) :
    oneD xs s = (s5, ⟨r, m, n, d, p⟩, ok) := by
  unfold oneD
  simp only [h1, h2, h3, h4, h5]
  rw [if_neg (by omega), Int.toNat_natCast]
/-- A store of a pen into a cell. -/
theorem cell_pen {w : World} {q : Nat} {t : TypeId} {a b c d x y z : Value} (h : Whole w q t [a, b, c, d, x, y, z]) (F G B : Value) : Whole (((w.setCell ⟨q, 4, none⟩ F).setCell ⟨q, 5, none⟩ G).setCell ⟨q, 6, none⟩ B) q t [a, b, c, d, F, G, B] := ((h.put 4 F).put 5 G).put 6 B
theorem penD_lt (xs : List Int) (s : Nat × Int) : (penD xs s).2.f < 256 ∧ (penD xs s).2.g < 256 ∧ (penD xs s).2.b < 256 := by
  unfold penD
  split
  · exact ofN_bd 0
  · exact ofN_bd _

theorem takecell_s (g : Nat) (xs : List Int) (s : Nat × Int) (w : World) (h : RdS w g xs s) (hb : Byte xs) (hl : xs.length ≤ 1000000) (hS : Spans w) :
    Calls Tryz.prog 100 #[.pointer (some ⟨g, 0, none⟩)] w (GivesC g w (oneD xs s).2.1 xs (oneS (oneD xs s))) := by
  obtain ⟨W0, hW0⟩ : ∃ W0, (w.alloc (.cells #[.int .i32 0, .int .i32 0, .int .i32 0, .int .u8 0, .int .u8 0, .int .u8 0, .int .u8 0] 105)).alloc (.cells #[.int .i32 0, .int .i32 0, .int .i32 0, .int .u8 0, .int .u8 0, .int .u8 0, .int .u8 0] 105) = W0 := ⟨_, rfl⟩
  have hB0 : Below w.heap.size w W0 := by rw [← hW0]; exact two_new w _ _ [.int .i32 0, .int .i32 0, .int .i32 0, .int .u8 0, .int .u8 0, .int .u8 0, .int .u8 0] [.int .i32 0, .int .i32 0, .int .i32 0, .int .u8 0, .int .u8 0, .int .u8 0, .int .u8 0]
  have hc0 : Whole W0 w.heap.size 105 [.int .i32 0, .int .i32 0, .int .i32 0, .int .u8 0, .int .u8 0, .int .u8 0, .int .u8 0] := by rw [← hW0]; exact (Whole.new w 105 [.int .i32 0, .int .i32 0, .int .i32 0, .int .u8 0, .int .u8 0, .int .u8 0, .int .u8 0]).alloc _
  obtain ⟨q, hq⟩ : ∃ q, w.heap.size + 1 = q := ⟨_, rfl⟩
  have hd0 : Whole W0 q 105 [.int .i32 0, .int .i32 0, .int .i32 0, .int .u8 0, .int .u8 0, .int .u8 0, .int .u8 0] := by rw [← hW0, ← hq]; exact whole_snd w _ 105 [.int .i32 0, .int .i32 0, .int .i32 0, .int .u8 0, .int .u8 0, .int .u8 0, .int .u8 0]
  have hg := h.lt
  have h0s := hS.size
  have KEY := hide (upto_s g xs s 2 W0 (h.later hB0) hb hl (by omega))
  obtain ⟨v0, v1⟩ := upD_bd (xs := xs) (s := s) (most := 2) (er := 5) hb (by omega)
  obtain ⟨⟨s1, V⟩, hU⟩ : ∃ U, upD xs s 2 5 = U := ⟨_, rfl⟩
  rw [hU] at KEY v0 v1
  simp only at v0 v1 KEY
  obtain ⟨d, rfl⟩ : ∃ d : Nat, V = (d : Int) := ⟨V.toNat, by omega⟩
  have hd : d ≤ 2 := by omega
  obtain ⟨p1, p2, p3⟩ := penD_lt xs s1
  obtain ⟨⟨s2, ⟨F, G, B⟩⟩, hP⟩ : ∃ P, penD xs s1 = P := ⟨_, rfl⟩
  rw [hP] at p1 p2 p3
  simp only at p1 p2 p3
  have HU := hide hU
  have HP := hide hP
  have HB0 := hide hB0
  have HC0 := hide hc0
  have HD0 := hide hd0
  have HW0 := hide hW0
  have hq1 : g ≠ q := by omega
  have hq2 : g ≠ w.heap.size := by omega
  have hq3 : w.heap.size ≠ q := by omega
  have hq4 : w.heap.size ≤ q := by omega
  have HGZ := hide (spans_rd hS h)
  have HQZ : Hid (0 ≠ q) := by unfold Hid; omega
  have HS0 := hide (hS.below hB0)
  clear hW0 hB0 h hU hP hc0 hd0 v0 v1 hS hg h0s
  go_enter Tryz.func100, Tryz.ntmps100
  go_wp2_with fail
  rw [HW0.out]
  refine KEY.out.mono ?_
  rintro e w1 ⟨rfl, ho1, hr1⟩
  have HO1 := hide (only_putq (only_from HB0.out ho1) hq4 (i := 3) (.int .u8 (d : Int)))
  have hc1 := HC0.out.far ho1 (Ne.symm hq2)
  have hd1 := HD0.out.far ho1 (Ne.symm hq1)
  have HR1 : Hid (RdS (w1.setCell ⟨q, 3, none⟩ (.int .u8 (d : Int))) g xs s1) := hr1.putq hd1 (by decide) hq1
  have HC1 := hide (whole_put (o := 3) hc1 hq3 (.int .u8 (d : Int)))
  have HD1 : Hid (Whole (w1.setCell ⟨q, 3, none⟩ (.int .u8 (d : Int))) q 105 [.int .i32 0, .int .i32 0, .int .i32 0, .int .u8 (d : Int), .int .u8 0, .int .u8 0, .int .u8 0]) := hd1.put 3 _
  have HS1 := hide ((ho1.spans HS0.out HGZ.out).putq (i := 3) HQZ.out (.int .u8 (d : Int)))
  have z3 := hd1.frozen 3
  have k3 := hd1.cell 3
  have l1 := hd1.lt
  simp only [List.getElem?_cons_zero, List.getElem?_cons_succ] at k3
  obtain ⟨w2, hw2⟩ : ∃ w2, w1.setCell ⟨q, 3, none⟩ (.int .u8 (d : Int)) = w2 := ⟨_, rfl⟩
  rw [hw2] at HO1 HR1 HC1 HD1 HS1
  have HW2 := hide hw2
  clear ho1 hr1 hc1 hd1 hw2
  go_wp2_with fail
  rw [HW2.out]
  refine (takepen_s g xs s1 w2 HR1.out hb hl).mono ?_
  rw [HP.out]
  rintro e w3 ⟨rfl, ho3, hr3⟩
  have hc3 := HC1.out.far ho3 (Ne.symm hq2)
  have hd3 := HD1.out.far ho3 (Ne.symm hq1)
  have HO3 := hide (only_putq (only_putq (only_putq (HO1.out.trans ho3) hq4 (i := 4) (.int .u8 (F : Int))) hq4 (i := 5) (.int .u8 (G : Int))) hq4 (i := 6) (.int .u8 (B : Int)))
  have HR3 := hide (((hr3.putq (i := 4) (x := .int .u8 (F : Int)) hd3 (by decide) hq1).putq (i := 5) (x := .int .u8 (G : Int)) (hd3.put 4 _) (by decide) hq1).putq (i := 6) (x := .int .u8 (B : Int)) ((hd3.put 4 _).put 5 _) (by decide) hq1)
  have HC3 := hide (whole_put (o := 6) (whole_put (o := 5) (whole_put (o := 4) hc3 hq3 (.int .u8 (F : Int))) hq3 (.int .u8 (G : Int))) hq3 (.int .u8 (B : Int)))
  have HD3 := hide (cell_pen hd3 (.int .u8 (F : Int)) (.int .u8 (G : Int)) (.int .u8 (B : Int)))
  have HS3 := hide ((((ho3.spans HS1.out HGZ.out).putq (i := 4) HQZ.out (.int .u8 (F : Int))).putq (i := 5) HQZ.out (.int .u8 (G : Int))).putq (i := 6) HQZ.out (.int .u8 (B : Int)))
  have z4 := hd3.frozen 4
  have z5 := hd3.frozen 5
  have z6 := hd3.frozen 6
  have k0' := hd3.cell 0
  have k1' := hd3.cell 1
  have k2' := hd3.cell 2
  have k3' := hd3.cell 3
  have k4 := hd3.cell 4
  have k5 := hd3.cell 5
  have k6 := hd3.cell 6
  have l3 := hd3.lt
  simp only [List.getElem?_cons_zero, List.getElem?_cons_succ] at k0' k1' k2' k3' k4 k5 k6
  obtain ⟨w4, hw4⟩ : ∃ w4, ((w3.setCell ⟨q, 4, none⟩ (.int .u8 (F : Int))).setCell ⟨q, 5, none⟩ (.int .u8 (G : Int))).setCell ⟨q, 6, none⟩ (.int .u8 (B : Int)) = w4 := ⟨_, rfl⟩
  rw [hw4] at HO3 HR3 HC3 HD3 HS3
  have HW4 := hide hw4
  clear ho3 hr3 hc3 hd3 hw4 k3 z3 l1
  by_cases hd0 : d = 0
  · subst hd0
    have HONE := hide (one_0 HU.out HP.out)
    cases hr : rightC ⟨0, 0, 0, 0, ⟨F, G, B⟩⟩
    · have HQ := hide (oneS_bad (t := s2.1) (E := s2.2) (ok := true) (.inr hr))
      have HRT := hide hr
      clear hr
      obtain ⟨c0, c1, c2, c3, c4, c5, c6, -⟩ := cells7 HD3.out
      have lq := HD3.out.lt
      go_wp2_with fail
      rw [HW4.out]
      refine (cright_any 0 0 0 0 F G B (by omega) w4 HS3.out).mono ?_
      rintro e w9 ⟨rfl, hb9⟩
      rw [HRT.out]
      have HO9 := hide (only_below HO3.out hb9)
      have HR9 := hide (HR3.out.later hb9)
      have HC9 := hide (HC3.out.later hb9)
      have HD9 := hide (HD3.out.later hb9)
      clear hb9 c0 c1 c2 c3 c4 c5 c6 lq
      go_wp2_with fail
      refine (fail_s g xs s2 3 (by decide) w9 HR9.out).mono ?_
      rintro e w10 ⟨rfl, ho10, hr10⟩
      have HO10 := hide (HO9.out.trans ho10)
      have HR10 := hide hr10
      have HC10 := hide (HC9.out.far ho10 (Ne.symm hq2))
      have HD10 := hide (HD9.out.far ho10 (Ne.symm hq1))
      clear ho10 hr10
      obtain ⟨c0, c1, c2, c3, c4, c5, c6, -⟩ := cells7 HD10.out
      obtain ⟨e0, e1, e2, e3, e4, e5, e6, ez⟩ := cells7 HC10.out
      have y0 := ez 0
      have y1 := ez 1
      have y2 := ez 2
      have y3 := ez 3
      have y4 := ez 4
      have y5 := ez 5
      have y6 := ez 6
      have lq := HC10.out.lt
      clear ez
      go_wp2
      refine ret7 Tryz.results100 (.inl rfl) rfl rfl (put7 HC10.out _ _ _ _ _ _ _) ?_
      rw [HONE.out, HQ.out]
      exact ⟨rfl, only_put7 HO10.out (Nat.le_refl _) _ _ _ _ _ _ _, rds_put7 HR10.out HC10.out hq2 _ _ _ _ _ _ _⟩
    · have HQ := hide (oneS_good (t := s2.1) (E := s2.2) hr)
      have HRT := hide hr
      clear hr
      obtain ⟨c0, c1, c2, c3, c4, c5, c6, -⟩ := cells7 HD3.out
      have lq := HD3.out.lt
      go_wp2_with fail
      rw [HW4.out]
      refine (cright_any 0 0 0 0 F G B (by omega) w4 HS3.out).mono ?_
      rintro e w9 ⟨rfl, hb9⟩
      rw [HRT.out]
      have HO9 := hide (only_below HO3.out hb9)
      have HR9 := hide (HR3.out.later hb9)
      have HC9 := hide (HC3.out.later hb9)
      have HD9 := hide (HD3.out.later hb9)
      clear hb9 c0 c1 c2 c3 c4 c5 c6 lq
      obtain ⟨c0, c1, c2, c3, c4, c5, c6, -⟩ := cells7 HD9.out
      obtain ⟨e0, e1, e2, e3, e4, e5, e6, ez⟩ := cells7 HC9.out
      have y0 := ez 0
      have y1 := ez 1
      have y2 := ez 2
      have y3 := ez 3
      have y4 := ez 4
      have y5 := ez 5
      have y6 := ez 6
      have lq := HC9.out.lt
      clear ez
      go_wp2
      refine ret7 Tryz.results100 (.inl rfl) rfl rfl (put7 HC9.out _ _ _ _ _ _ _) ?_
      rw [HONE.out, HQ.out]
      exact ⟨rfl, only_put7 HO9.out (Nat.le_refl _) _ _ _ _ _ _ _, rds_put7 HR9.out HC9.out hq2 _ _ _ _ _ _ _⟩
  · have hdz : ((d : Int) != 0) = true := by simp; omega
    have HD := hide hd0
    obtain ⟨r0, r1⟩ := upD_bd (xs := xs) (s := s2) (most := 1114111) (er := 5) hb (by omega)
    obtain ⟨⟨s3, r⟩, hR⟩ : ∃ U, upD xs s2 1114111 5 = U := ⟨_, rfl⟩
    obtain ⟨⟨s4, kk⟩, hK⟩ : ∃ U, upD xs s3 2 6 = U := ⟨_, rfl⟩
    obtain ⟨⟨s5, m, n, ok⟩, hM⟩ : ∃ U, marksD xs s4 kk = U := ⟨_, rfl⟩
    have HONE := hide (one_n hd0 HU.out HP.out hR hK hM)
    have HRU := hide hR
    have HKU := hide hK
    have HMU := hide hM
    clear hR hK hM hd0 r0 r1
    go_wp2_with fail
    rw [HW4.out]
    refine (takerune_s g xs s2 w4 HR3.out hb hl).mono ?_
    rw [HRU.out]
    rintro e w5 ⟨rfl, ho5, hr5⟩
    have hc5 := HC3.out.far ho5 (Ne.symm hq2)
    have hd5 := HD3.out.far ho5 (Ne.symm hq1)
    have HO5 := hide (only_putq (HO3.out.trans ho5) hq4 (i := 0) (.int .i32 r))
    have HR5 := hide (hr5.putq (i := 0) (x := .int .i32 r) hd5 (by decide) hq1)
    have HC5 := hide (whole_put (o := 0) hc5 hq3 (.int .i32 r))
    have HD5 : Hid (Whole (w5.setCell ⟨q, 0, none⟩ (.int .i32 r)) q 105 [.int .i32 r, .int .i32 0, .int .i32 0, .int .u8 (d : Int), .int .u8 (F : Int), .int .u8 (G : Int), .int .u8 (B : Int)]) := hd5.put 0 _
    have HS5 := hide ((ho5.spans HS3.out HGZ.out).putq (i := 0) HQZ.out (.int .i32 r))
    have z0 := hd5.frozen 0
    have k0 := hd5.cell 0
    have l5 := hd5.lt
    simp only [List.getElem?_cons_zero] at k0
    obtain ⟨w6, hw6⟩ : ∃ w6, w5.setCell ⟨q, 0, none⟩ (.int .i32 r) = w6 := ⟨_, rfl⟩
    rw [hw6] at HO5 HR5 HC5 HD5 HS5
    have HW6 := hide hw6
    clear ho5 hr5 hc5 hd5 hw6 k0' k1' k2' k3' k4 k5 k6 z4 z5 z6 l3
    go_wp2_with fail
    rw [HW6.out]
    refine (takemarks_s g xs s3 w6 HR5.out hb hl).mono ?_
    rw [HKU.out]
    simp only
    rw [HMU.out]
    rintro e w7 ⟨rfl, ho7, hr7⟩
    have hc7 := HC5.out.far ho7 (Ne.symm hq2)
    have hd7 := HD5.out.far ho7 (Ne.symm hq1)
    have HO8 := hide (only_putq (only_putq (HO5.out.trans ho7) hq4 (i := 1) (.int .i32 m)) hq4 (i := 2) (.int .i32 n))
    have HR8 := hide ((hr7.putq (i := 1) (x := .int .i32 m) hd7 (by decide) hq1).putq (i := 2) (x := .int .i32 n) (hd7.put 1 _) (by decide) hq1)
    have HC8 := hide (whole_put (o := 2) (whole_put (o := 1) hc7 hq3 (.int .i32 m)) hq3 (.int .i32 n))
    have HD8 : Hid (Whole ((w7.setCell ⟨q, 1, none⟩ (.int .i32 m)).setCell ⟨q, 2, none⟩ (.int .i32 n)) q 105 [.int .i32 r, .int .i32 m, .int .i32 n, .int .u8 (d : Int), .int .u8 (F : Int), .int .u8 (G : Int), .int .u8 (B : Int)]) := (hd7.put 1 _).put 2 _
    have HS8 := hide (((ho7.spans HS5.out HGZ.out).putq (i := 1) HQZ.out (.int .i32 m)).putq (i := 2) HQZ.out (.int .i32 n))
    have z1 := hd7.frozen 1
    have z2 := hd7.frozen 2
    have k1 := hd7.cell 1
    have k2 := hd7.cell 2
    have j0 := hd7.cell 0
    have j3 := hd7.cell 3
    have j4 := hd7.cell 4
    have j5 := hd7.cell 5
    have j6 := hd7.cell 6
    have l7 := hd7.lt
    simp only [List.getElem?_cons_zero, List.getElem?_cons_succ] at k1 k2 j0 j3 j4 j5 j6
    obtain ⟨w8, hw8⟩ : ∃ w8, (w7.setCell ⟨q, 1, none⟩ (.int .i32 m)).setCell ⟨q, 2, none⟩ (.int .i32 n) = w8 := ⟨_, rfl⟩
    rw [hw8] at HO8 HR8 HC8 HD8 HS8
    have HW8 := hide hw8
    clear ho7 hr7 hc7 hd7 hw8 k0 z0 l5
    cases ok
    · have HQ := hide (oneS_bad (t := s5.1) (E := s5.2) (c := ⟨r, m, n, d, ⟨F, G, B⟩⟩) (ok := false) (.inl rfl))
      go_wp2_with fail
      rw [HW8.out]
      refine (fail_s g xs s5 3 (by decide) w8 HR8.out).mono ?_
      rintro e w10 ⟨rfl, ho10, hr10⟩
      have HO10 := hide (HO8.out.trans ho10)
      have HR10 := hide hr10
      have HC10 := hide (HC8.out.far ho10 (Ne.symm hq2))
      have HD10 := hide (HD8.out.far ho10 (Ne.symm hq1))
      clear ho10 hr10
      obtain ⟨c0, c1, c2, c3, c4, c5, c6, -⟩ := cells7 HD10.out
      obtain ⟨e0, e1, e2, e3, e4, e5, e6, ez⟩ := cells7 HC10.out
      have y0 := ez 0
      have y1 := ez 1
      have y2 := ez 2
      have y3 := ez 3
      have y4 := ez 4
      have y5 := ez 5
      have y6 := ez 6
      have lq := HC10.out.lt
      clear ez
      go_wp2
      refine ret7 Tryz.results100 (.inl rfl) rfl rfl (put7 HC10.out _ _ _ _ _ _ _) ?_
      rw [HONE.out, HQ.out]
      exact ⟨rfl, only_put7 HO10.out (Nat.le_refl _) _ _ _ _ _ _ _, rds_put7 HR10.out HC10.out hq2 _ _ _ _ _ _ _⟩
    · cases hr : rightC ⟨r, m, n, d, ⟨F, G, B⟩⟩
      · have HQ := hide (oneS_bad (t := s5.1) (E := s5.2) (ok := true) (.inr hr))
        have HRT := hide hr
        clear hr
        obtain ⟨c0, c1, c2, c3, c4, c5, c6, -⟩ := cells7 HD8.out
        have lq := HD8.out.lt
        go_wp2_with fail
        rw [HW8.out]
        refine (cright_any r m n d F G B (by omega) w8 HS8.out).mono ?_
        rintro e w9 ⟨rfl, hb9⟩
        rw [HRT.out]
        have HO9 := hide (only_below HO8.out hb9)
        have HR9 := hide (HR8.out.later hb9)
        have HC9 := hide (HC8.out.later hb9)
        have HD9 := hide (HD8.out.later hb9)
        clear hb9 c0 c1 c2 c3 c4 c5 c6 lq
        go_wp2_with fail
        refine (fail_s g xs s5 3 (by decide) w9 HR9.out).mono ?_
        rintro e w10 ⟨rfl, ho10, hr10⟩
        have HO10 := hide (HO9.out.trans ho10)
        have HR10 := hide hr10
        have HC10 := hide (HC9.out.far ho10 (Ne.symm hq2))
        have HD10 := hide (HD9.out.far ho10 (Ne.symm hq1))
        clear ho10 hr10
        obtain ⟨c0, c1, c2, c3, c4, c5, c6, -⟩ := cells7 HD10.out
        obtain ⟨e0, e1, e2, e3, e4, e5, e6, ez⟩ := cells7 HC10.out
        have y0 := ez 0
        have y1 := ez 1
        have y2 := ez 2
        have y3 := ez 3
        have y4 := ez 4
        have y5 := ez 5
        have y6 := ez 6
        have lq := HC10.out.lt
        clear ez
        go_wp2
        refine ret7 Tryz.results100 (.inl rfl) rfl rfl (put7 HC10.out _ _ _ _ _ _ _) ?_
        rw [HONE.out, HQ.out]
        exact ⟨rfl, only_put7 HO10.out (Nat.le_refl _) _ _ _ _ _ _ _, rds_put7 HR10.out HC10.out hq2 _ _ _ _ _ _ _⟩
      · have HQ := hide (oneS_good (t := s5.1) (E := s5.2) hr)
        have HRT := hide hr
        clear hr
        obtain ⟨c0, c1, c2, c3, c4, c5, c6, -⟩ := cells7 HD8.out
        have lq := HD8.out.lt
        go_wp2_with fail
        rw [HW8.out]
        refine (cright_any r m n d F G B (by omega) w8 HS8.out).mono ?_
        rintro e w9 ⟨rfl, hb9⟩
        rw [HRT.out]
        have HO9 := hide (only_below HO8.out hb9)
        have HR9 := hide (HR8.out.later hb9)
        have HC9 := hide (HC8.out.later hb9)
        have HD9 := hide (HD8.out.later hb9)
        clear hb9 c0 c1 c2 c3 c4 c5 c6 lq
        obtain ⟨c0, c1, c2, c3, c4, c5, c6, -⟩ := cells7 HD9.out
        obtain ⟨e0, e1, e2, e3, e4, e5, e6, ez⟩ := cells7 HC9.out
        have y0 := ez 0
        have y1 := ez 1
        have y2 := ez 2
        have y3 := ez 3
        have y4 := ez 4
        have y5 := ez 5
        have y6 := ez 6
        have lq := HC9.out.lt
        clear ez
        go_wp2
        refine ret7 Tryz.results100 (.inl rfl) rfl rfl (put7 HC9.out _ _ _ _ _ _ _) ?_
        rw [HONE.out, HQ.out]
        exact ⟨rfl, only_put7 HO9.out (Nat.le_refl _) _ _ _ _ _ _ _, rds_put7 HR9.out HC9.out hq2 _ _ _ _ _ _ _⟩
/-! The document's reader: a struct of the bytes, the place, the error, handed in and out by value. -/
def R (a : Option Addr) (n c : Nat) (t E : Int) : Value := .agg #[.slice a n c, .int .i64 t, .int .i64 E]

theorem below2 (w : World) (x y : Obj) : Below w.heap.size w ((w.alloc x).alloc y) := ((Below.refl _ _).alloc (Nat.le_refl _) _).alloc (by simp) _
section
variable {w W W' : World} {a : Option Addr} {n c T : Nat} {E : Int} {cell : List Value}
end
theorem up_t {xs : List Int} {s : Nat × Int} {most er : Int} (hb : Byte xs) (ht : s.1 ≤ xs.length) : (upD xs s most er).1.1 ≤ xs.length := uAt_le s.2 most hb ht
theorem and_low (k : Nat) (hk : k ≤ 1000) : bits .and .u64 (k : Int) 4294967295 = (k : Int) := by
  have := u64_and_nat k 4294967295 (by omega) (by omega)
  rw [show k &&& 4294967295 = k % 4294967296 from Nat.and_two_pow_sub_one_eq_mod k 32, Nat.mod_eq_of_lt (by omega)] at this
  exact this
theorem mul64_one (k : Nat) (hk : k ≤ 1000) (w : World) : Calls Tryz.prog 110 #[.int .u64 1, .int .u64 (k : Int)] w fun e w' => e = .returned (.tuple #[.int .u64 0, .int .u64 (k : Int)]) ∧ w = w' := by
  have a1 : bits .and .u64 1 4294967295 = 1 := and_low 1 (by omega)
  have a0 : bits .and .u64 0 4294967295 = 0 := and_low 0 (by omega)
  have ak := and_low k hk
  have s1 : (k : Int) / 4294967296 = 0 := by omega
  go_enter Tryz.func110, Tryz.ntmps110
  go_wp2
  go_ret2
  exact ⟨rfl, rfl⟩
theorem mul_one (k : Nat) (hk : k ≤ 1000) (w : World) : Calls Tryz.prog 106 #[.int .u64 1, .int .u64 (k : Int)] w fun e w' => e = .returned (.tuple #[.int .u64 0, .int .u64 (k : Int)]) ∧ w = w' := by
  go_enter Tryz.func106, Tryz.ntmps106
  go_wp2_with fail
  refine (mul64_one k hk w).mono ?_
  rintro e w1 ⟨rfl, rfl⟩
  go_wp2
  go_ret2
  exact ⟨rfl, rfl⟩
theorem lay_rep0 (k : Nat) (c : Cel) (hk : 1 ≤ k) : layC (List.replicate k zeroC) 0 ([c].take k) = List.replicate 1 c ++ List.replicate (k - 1) zeroC := by
  obtain ⟨j, rfl⟩ : ∃ j, k = j + 1 := ⟨k - 1, by omega⟩
  unfold layC
  simp
theorem lay_rep (k m mm : Nat) (c : Cel) (hm : m ≤ k) (hmm : Nat.min m (k - m) = mm) : layC (List.replicate m c ++ List.replicate (k - m) zeroC) m ((List.replicate m c).take (k - m)) = List.replicate (m + mm) c ++ List.replicate (k - (m + mm)) zeroC := by
  unfold layC
  have e : (List.replicate m c).take (k - m) = List.replicate mm c := by
    rw [List.take_replicate]
    congr 1
    rw [← hmm]
    exact Nat.min_comm _ _
  have hle : mm ≤ k - m := by rw [← hmm]; exact Nat.min_le_right _ _
  rw [e]
  rw [List.take_append_of_le_length (by simp), List.take_of_length_le (by simp), List.drop_append, List.drop_eq_nil_of_le (by simp), List.nil_append, List.drop_replicate, List.length_replicate, List.length_replicate, ← List.append_assoc, List.replicate_append_replicate]
  congr 2
  omega
theorem rep_cels {w : World} {g k m : Nat} {c : Cel} (h : Whole w g 105 (flatC .i32 (List.replicate m c ++ List.replicate (k - m) zeroC))) : Cels .i32 w (some ⟨g, 0, none⟩) (List.replicate m c) := by
  have := h.cels.take m
  rwa [List.take_append_of_le_length (by simp), List.take_of_length_le (by simp)] at this
theorem repeat_any (A : Option Addr) (c1 : Nat) (c : Cel) (k : Nat) (w : World) (h : Cels .i32 w A [c]) (hk : 1 ≤ k) (hl : k ≤ 1000) : Calls Tryz.prog 101 #[.slice A 1 c1, .int .i64 (k : Int)] w (Lined (List.replicate k c) w) := by
  have HC := hide h
  clear h
  go_enter Tryz.func101, Tryz.ntmps101
  go_wp2_with fail
  refine (mul_one k hl w).mono ?_
  rintro e w0 ⟨rfl, rfl⟩
  go_wp2_with (at_make; refine stopw ?_)
  unfold Hid
  refine wpList_makeL elemL rfl _ _ rfl k rfl rfl (by omega) (by omega) ?_
  intro w1 hw1 hb1
  have HW1 := hide hw1
  have HB1 := hide hb1
  clear hw1 hb1
  obtain ⟨w2, hrun, hw2, ho2⟩ := run_copyL elemL w1 3 w.heap.size 0 105 (List.replicate k zeroC) [c] A k k 1 c1 HW1.out (HC.out.below HB1.out) rfl (by simp)
  rw [Nat.zero_mul, show Nat.min 1 k = 1 from Nat.min_eq_left hk] at hrun
  rw [lay_rep0 k c hk] at hw2
  have HW2 := hide hw2
  have HB2 := hide (ho2.below HB1.out HB1.out.size (Nat.le_refl _))
  clear hw2 ho2
  go_wp2
  go_loopw [8] (fun i wr => ∃ m : Nat, 1 ≤ m ∧ m ≤ k ∧ i = .int .i64 m ∧ Hid (Whole wr w.heap.size 105 (flatC .i32 (List.replicate m c ++ List.replicate (k - m) zeroC))) ∧ Below w.heap.size w wr) (fun i _ => k - (intOf i).toNat)
  case atStart => exact ⟨1, by omega, hk, rfl, HW2, HB2.out⟩
  case round =>
    obtain ⟨m, h1, hm, rfl, HW, hb⟩ := hrel
    by_cases hlt : m < k
    · have hne : ¬ k = m := by omega
      have hsz : (List.replicate m c ++ List.replicate (k - m) zeroC).length = k := by simp; omega
      obtain ⟨w3, hrun, hw3, ho3⟩ := run_copyL elemL wr.drew 3 w.heap.size m 105 (List.replicate m c ++ List.replicate (k - m) zeroC) (List.replicate m c) (some ⟨w.heap.size, 0, none⟩) (k - m) (k - m) m k HW.out.drew (rep_cels HW.out).drew (by simp) (by rw [hsz]; omega)
      obtain ⟨mm, hmm⟩ : ∃ mm, Nat.min m (k - m) = mm := ⟨_, rfl⟩
      have hmm1 : 1 ≤ mm := by rw [← hmm]; exact Nat.le_min.2 ⟨h1, by omega⟩
      have hmm2 : mm ≤ k - m := by rw [← hmm]; exact Nat.min_le_right _ _
      rw [lay_rep k m mm c hm hmm] at hw3
      rw [hmm] at hrun
      have HW3 := hide hw3
      have HB3 := hide (ho3.below (hb.drewN 1) (hb.drewN 1).size (Nat.le_refl _))
      clear hw3 ho3 hmm hsz
      go_wp2
      refine wp_region_chainL (fun _ => True) 9 [(0, 0), (0, 1), (0, 2), (0, 4), (0, 5), (0, 3), (1, 6), (1, 7), (1, 8), (3, 9)] (by kernel_rfl) (by kernel_rfl) (by kernel_rfl) (fun _ _ _ _ _ h => h) ?_ ?_
      · exact trivial
      refine chainL_take (v := ?_) (by simp only [List.getElem?_toArray, List.getElem?_cons_zero]; rfl) (by rfl) (fun w hS => ?_) ?_
      rotate_left
      · go_simp <;> with_reducible rfl
      simp only [Act.put, List.setIfInBounds_toArray, List.set_cons_zero, List.set_cons_succ]
      refine chainL_take (v := ?_) (by simp only [List.getElem?_toArray, List.getElem?_cons_zero, List.getElem?_cons_succ]; rfl) (by rfl) (fun w hS => ?_) ?_
      rotate_left
      · go_simp <;> with_reducible rfl
      simp only [Act.put, List.setIfInBounds_toArray, List.set_cons_zero, List.set_cons_succ]
      refine chainL_take (v := ?_) (by simp only [List.getElem?_toArray, List.getElem?_cons_zero, List.getElem?_cons_succ]; rfl) (by rfl) (fun w hS => ?_) ?_
      rotate_left
      · go_simp <;> with_reducible rfl
      simp only [Act.put, List.setIfInBounds_toArray, List.set_cons_zero, List.set_cons_succ]
      refine chainL_take (v := ?_) (by simp only [List.getElem?_toArray, List.getElem?_cons_zero, List.getElem?_cons_succ]; rfl) (by rfl) (fun w hS => ?_) ?_
      rotate_left
      · go_simp <;> with_reducible rfl
      simp only [Act.put, List.setIfInBounds_toArray, List.set_cons_zero, List.set_cons_succ]
      refine chainL_take (v := ?_) (by simp only [List.getElem?_toArray, List.getElem?_cons_zero, List.getElem?_cons_succ]; rfl) (by rfl) (fun w hS => ?_) ?_
      rotate_left
      · go_simp <;> with_reducible rfl
      simp only [Act.put, List.setIfInBounds_toArray, List.set_cons_zero, List.set_cons_succ]
      refine chainL_take (v := ?_) (by simp only [List.getElem?_toArray, List.getElem?_cons_zero, List.getElem?_cons_succ]; rfl) (by rfl) (fun w hS => ?_) ?_
      rotate_left
      · go_simp <;> with_reducible rfl
      simp only [Act.put, List.setIfInBounds_toArray, List.set_cons_zero, List.set_cons_succ]
      refine chainL_alone (by simp only [List.getElem?_toArray, List.getElem?_cons_zero, List.getElem?_cons_succ]; rfl) ?_
      intro K hK
      go_wp2
      refine hK.out _ _ (trivial) ?_
      clear hK K
      refine chainL_alone (by simp only [List.getElem?_toArray, List.getElem?_cons_zero, List.getElem?_cons_succ]; rfl) ?_
      intro K hK
      go_wp2
      refine hK.out _ _ (trivial) ?_
      clear hK K
      refine chainL_alone (by simp only [List.getElem?_toArray, List.getElem?_cons_zero, List.getElem?_cons_succ]; rfl) ?_
      intro K hK
      go_wp2
      refine hK.out _ _ (trivial) ?_
      clear hK K
      refine chainL_late (by simp only [List.getElem?_toArray, List.getElem?_cons_zero, List.getElem?_cons_succ]; rfl) ?_
      intro K hK
      go_wp2
      refine hK.out _ _ ?_
      clear hK K
      refine chainL_nil ?_
      go_wp2
      go_roundw
      case rel => exact ⟨m + mm, by omega, by omega, by go_num, HW3, HB3.out⟩
      case measure => simp [intOf]; omega
    · obtain rfl : m = k := by omega
      have HE : Hid (Whole wr w.heap.size 105 (flatC .i32 (List.replicate m c))) := by have := HW.out; unfold Hid; rwa [Nat.sub_self, List.replicate_zero, List.append_nil] at this
      go_wp2
      go_ret
      exact ⟨_, by rw [List.length_replicate]; rfl, Nat.le_refl _, HE.out, hb⟩
theorem OwnC.from {e : TypeId} {k : IntKind} {B : Nat} {w w1 wr : World} {v : Value} {cs : List Cel} (h : OwnC e k w1.heap.size w1 wr v cs) (hb : Below B w w1) (hB : B ≤ w1.heap.size) : OwnC e k B w wr v cs := by
  refine ⟨⟨h.own.1, ?_⟩, hb.trans (h.bel.mono hB), Nat.le_trans hB h.le⟩
  rcases h.own.2 with h0 | ⟨g, cap, cur, hv, hg, h1⟩
  · exact .inl h0
  · exact .inr ⟨g, cap, cur, hv, Nat.le_trans hB hg, h1⟩
theorem putTab_len (cs : List Cel) (k : Nat) (c : Cel) : (putTab cs k c).length = cs.length := tab_len _ _
theorem put_len (cs : List Cel) (a : Int) (c : Cel) : (putC cs a c).length = cs.length := by
  unfold putC; split
  · rw [mend_len, putTab_len]
  · rfl
theorem flat_set (k : IntKind) (cs : List Cel) (j : Nat) (c : Cel) (h : j < cs.length) : (flatC k cs).take (j * 7) ++ ([.int k c.r, .int k c.m, .int k c.n, .int .u8 (c.w : Int), .int .u8 (c.p.f : Int), .int .u8 (c.p.g : Int), .int .u8 (c.p.b : Int)] ++ (flatC k cs).drop (j * 7 + 7)) = flatC k (cs.set j c) := by
  rw [set_lay cs j c h, flat_lay]
  rfl
/-- A row of the call's own, one cell stored. -/
theorem OwnC.put {e : TypeId} {k : IntKind} {B : Nat} {w wr : World} {g n cap : Nat} {cs : List Cel} (h : OwnC e k B w wr (.slice (some ⟨g, 0, none⟩) n cap) cs) (hn : cs.length = n) (o j : Nat) (ho : o = j * 7) (hj : j < n) (c : Cel) :
    OwnC e k B w (((((((wr.setCell ⟨g, o, none⟩ (.int k c.r)).setCell ⟨g, o + 1, none⟩ (.int k c.m)).setCell ⟨g, o + 2, none⟩ (.int k c.n)).setCell ⟨g, o + 3, none⟩ (.int .u8 (c.w : Int))).setCell ⟨g, o + 4, none⟩ (.int .u8 (c.p.f : Int))).setCell ⟨g, o + 5, none⟩ (.int .u8 (c.p.g : Int))).setCell ⟨g, o + 6, none⟩ (.int .u8 (c.p.b : Int))) (.slice (some ⟨g, 0, none⟩) n cap) (cs.set j c) := by
  subst hn
  have hB : B ≤ g := (h.own.lt g rfl).1
  have s0 := (h.own.stored o (.int k c.r)).1
  have s1 := (s0.stored (o + 1) (.int k c.m)).1
  have s2 := (s1.stored (o + 2) (.int k c.n)).1
  have s3 := (s2.stored (o + 3) (.int .u8 (c.w : Int))).1
  have s4 := (s3.stored (o + 4) (.int .u8 (c.p.f : Int))).1
  have s5 := (s4.stored (o + 5) (.int .u8 (c.p.g : Int))).1
  have s6 := (s5.stored (o + 6) (.int .u8 (c.p.b : Int))).1
  clear s0 s1 s2 s3 s4 s5
  rw [set7 _ o (by rw [flatC_len]; omega)] at s6
  subst ho
  rw [flat_set k cs j c hj] at s6
  refine ⟨?_, (only_cell (j * 7) _ _ _ _ _ _ _).below h.bel h.le hB, ?_⟩
  · rw [List.length_set]; exact s6
  · have := h.le; simp only [World.size_setCell]; exact this
/-! ### numbers that fit -/
theorem celB_blank (p : Pn) : CelB (blankC p) := ⟨by show R32 32; unfold R32; omega, r32_0, r32_0, by show 1 < 256; omega⟩
theorem celB_rest (c : Cel) : CelB (restC c) := ⟨r32_0, r32_0, r32_0, by show 0 < 256; omega⟩
theorem LB_tab {n : Nat} {f : Nat → Cel} (h : ∀ i, i < n → CelB (f i)) : LB (tab n f) := by
  intro i hi
  rw [tab_len] at hi
  rw [tab_cAt n f i hi]
  exact h i hi
theorem LB_mend {cs : List Cel} (h : LB cs) : LB (mendC cs) := by
  refine LB_tab fun i hi => ?_
  unfold mendAt
  split
  · exact celB_blank _
  · exact h i hi
theorem LB_new (n : Int) : LB (newC n) := LB_tab fun i hi => celB_blank _
theorem LB_put {cs : List Cel} {a : Int} {c : Cel} (h : LB cs) (hc : CelB c) : LB (putC cs a c) := by
  unfold putC
  split
  · refine LB_mend (LB_tab fun i hi => ?_)
    split
    · exact hc
    · split
      · exact celB_rest _
      · exact h i hi
  · exact h
theorem LB_fit {cs : List Cel} {x : Int} (h : LB cs) : LB (fitC cs x) := by
  refine LB_mend (LB_tab fun i hi => ?_)
  split
  · rename_i q; exact h i q
  · exact celB_blank _
/-! ### the contracts -/
section
variable {A C : Option Addr} {n c m d : Nat} {cs xs ys : List Cel} {w : World}
end
end
theorem alone_1 {l : List Cel} {i : Nat} (h : wAt l i = 1) : aloneC l i = false := by unfold aloneC; rw [if_neg (by omega), if_neg (by omega)]
theorem alone_of2 {l : List Cel} {i : Nat} (h : wAt l i = 2) (h1 : wAt l (i + 1) = 0) : aloneC l i = false := by unfold aloneC; rw [if_pos h]; simp [h1]
theorem alone_of0 {l : List Cel} {i : Nat} (h : wAt l i = 0) (h0 : i ≠ 0) (h1 : wAt l (i - 1) = 2) : aloneC l i = false := by unfold aloneC; rw [if_neg (by omega), if_pos h]; simp [h0, h1]
theorem mend_wAt (l : List Cel) (i : Nat) (hi : i < l.length) : wAt (mendC l) i = if aloneC l i = true then 1 else wAt l i := by
  rw [wAt_in _ _ (by rw [mend_len]; exact hi), mend_cAt l i hi, wAt_in l i hi]
  unfold mendAt
  split <;> rfl
theorem mend_w2 {l : List Cel} {i : Nat} (h : wAt (mendC l) i = 2) : wAt l i = 2 ∧ aloneC l i = false := by
  have hi : i < l.length := by have := wAt_lt (l := mendC l) (i := i) (by omega); rwa [mend_len] at this
  rw [mend_wAt l i hi] at h
  cases q : aloneC l i
  · rw [q] at h; simp at h; exact ⟨h, rfl⟩
  · rw [q] at h; simp at h
theorem mend_w0 {l : List Cel} {i : Nat} (h : wAt (mendC l) i = 0) : wAt l i = 0 ∧ aloneC l i = false := by
  have hi : i < l.length := by have := wAt_lt (l := mendC l) (i := i) (by omega); rwa [mend_len] at this
  rw [mend_wAt l i hi] at h
  cases q : aloneC l i
  · rw [q] at h; simp at h; exact ⟨h, rfl⟩
  · rw [q] at h; simp at h
/-- What is mended has no half alone. -/
theorem mend_none (l : List Cel) (i : Nat) : aloneC (mendC l) i = false := by
  by_cases h2 : wAt (mendC l) i = 2
  · obtain ⟨h3, h4⟩ := mend_w2 h2
    have h5 := alone_2 h3 h4
    have hi1 : i + 1 < l.length := wAt_lt (by omega)
    refine alone_of2 h2 ?_
    rw [mend_wAt l _ hi1, alone_of0 h5 (by omega) h3]
    simp [h5]
  · by_cases h0 : wAt (mendC l) i = 0
    · obtain ⟨h3, h4⟩ := mend_w0 h0
      obtain ⟨h5, h6⟩ := alone_0 h3 h4
      have hi1 : i - 1 < l.length := wAt_lt (by omega)
      refine alone_of0 h0 h5 ?_
      rw [mend_wAt l _ hi1, alone_of2 h6 (by rw [show i - 1 + 1 = i by omega]; exact h3)]
      simp [h6]
    · unfold aloneC; rw [if_neg h2, if_neg h0]
theorem mend_stays {l : List Cel} (h : ∀ i, i < l.length → aloneC l i = false) : mendC l = l := by
  unfold mendC
  conv => rhs; rw [← tab_self l]
  exact tab_eq fun i hi => mendAt_no l i (h i hi)
theorem mend_right {l : List Cel} (h : rightL l = true) : mendC l = l := mend_stays fun i hi => ((okAt_iff l i).1 ((rightL_iff l).1 h i hi)).2.1
/-- All cells right, halves beside each other of one pen. -/
def fine (l : List Cel) : Prop := ∀ i, i < l.length → rightC (cAt l i) = true ∧ (wAt l i = 0 → i ≠ 0 → wAt l (i - 1) = 2 → (cAt l i).p = (cAt l (i - 1)).p)
theorem right_of_fine {l : List Cel} (h : fine l) : rightL (mendC l) = true := by
  rw [rightL_iff]
  intro i hi
  rw [mend_len] at hi
  rw [okAt_iff]
  refine ⟨?_, mend_none l i, fun h0 => ?_⟩
  · rw [mend_cAt l i hi]
    unfold mendAt
    split
    · exact right_blank (right_pen (h i hi).1)
    · exact (h i hi).1
  · obtain ⟨h3, h4⟩ := mend_w0 h0
    obtain ⟨h5, h6⟩ := alone_0 h3 h4
    have h7 := alone_of2 h6 (by rw [show i - 1 + 1 = i by omega]; exact h3)
    rw [mend_cAt l i hi, mend_cAt l (i - 1) (by omega), mendAt_no l i h4, mendAt_no l (i - 1) h7]
    exact (h i hi).2 h3 h5 h6
theorem fine_of_right {l : List Cel} (h : rightL l = true) {i : Nat} (hi : i < l.length) : rightC (cAt l i) = true ∧ (wAt l i = 0 → (cAt l i).p = (cAt l (i - 1)).p) := by
  obtain ⟨h1, _, h3⟩ := (okAt_iff l i).1 ((rightL_iff l).1 h i hi)
  exact ⟨h1, h3⟩
theorem tab_wAt (n : Nat) (f : Nat → Cel) (i : Nat) (h : i < n) : wAt (tab n f) i = (f i).w := by rw [wAt_in _ _ (by rw [tab_len]; exact h), tab_cAt n f i h]
theorem right_put {l : List Cel} {a : Int} {c : Cel} (h : rightL l = true) : rightL (putC l a c) = true := by
  unfold putC
  split
  · rename_i hok
    unfold putOk at hok
    rw [decide_eq_true_iff] at hok
    obtain ⟨hc, hw, ha, hl⟩ := hok
    have hw2 : c.w = 1 ∨ c.w = 2 := by rcases right_w hc with q | q | q; exact absurd q hw; exact .inl q; exact .inr q
    refine right_of_fine ?_
    unfold putTab
    intro i hi
    rw [tab_len] at hi
    rw [tab_cAt _ _ _ hi, tab_wAt _ _ _ hi]
    refine ⟨?_, fun h0 hi0 h2 => ?_⟩
    · split
      · exact hc
      · split
        · exact right_rest hc
        · exact (fine_of_right h hi).1
    · have hi1 : i - 1 < l.length := by omega
      rw [tab_wAt _ _ _ hi1] at h2
      rw [tab_cAt _ _ _ hi1]
      generalize a.toNat = k at *
      by_cases e1 : i = k
      · rw [if_pos e1] at h0; exact absurd h0 hw
      · rw [if_neg e1] at h0 ⊢
        by_cases e2 : i = k + 1 ∧ c.w = 2
        · rw [if_pos e2, if_pos (by omega)]; rfl
        · rw [if_neg e2] at h0 ⊢
          by_cases e3 : i - 1 = k
          · rw [if_pos e3] at h2; omega
          · rw [if_neg e3] at h2 ⊢
            by_cases e4 : i - 1 = k + 1 ∧ c.w = 2
            · rw [if_pos e4] at h2; cases h2
            · rw [if_neg e4]
              refine (fine_of_right h hi).2 ?_
              rw [wAt_in l i hi]; exact h0
  · exact h
theorem right_fit {l : List Cel} {x : Int} (h : rightL l = true) : rightL (fitC l x) = true := by
  refine right_of_fine ?_
  unfold fitTab
  intro i hi
  rw [tab_len] at hi
  rw [tab_cAt _ _ _ hi, tab_wAt _ _ _ hi]
  refine ⟨?_, fun h0 hi0 h2 => ?_⟩
  · split
    · rename_i q; exact (fine_of_right h q).1
    · exact right_blank (by decide)
  · have hi1 : i - 1 < lenN x := by omega
    rw [tab_wAt _ _ _ hi1] at h2
    rw [tab_cAt _ _ _ hi1]
    split at h0
    · rename_i e1
      rw [if_pos e1, if_pos (by omega)]
      refine (fine_of_right h e1).2 ?_
      rw [wAt_in l i e1]; exact h0
    · cases h0
/-! ### twice -/
/-- A grid: its lines, the cursor's row and column. -/
structure Gd where
  ls : List (List Cel)
  row : Nat
  col : Nat

/-- The line of a row. -/
def lAt (ls : List (List Cel)) (i : Nat) : List Cel := ls.getD i []
/-- n lines, by a rule. -/
def gtab (n : Nat) (f : Nat → List Cel) : List (List Cel) := (List.range n).map f
theorem gtab_len (n : Nat) (f : Nat → List Cel) : (gtab n f).length = n := by simp [gtab]
theorem gtab_get (n : Nat) (f : Nat → List Cel) (i : Nat) (h : i < n) : (gtab n f)[i]? = some (f i) := by simp [gtab, h]
theorem gtab_no (n : Nat) (f : Nat → List Cel) (i : Nat) (h : n ≤ i) : (gtab n f)[i]? = none := by simp [gtab, h]
theorem gtab_lAt (n : Nat) (f : Nat → List Cel) (i : Nat) (h : i < n) : lAt (gtab n f) i = f i := by
  unfold lAt; rw [List.getD_eq_getElem?_getD, gtab_get n f i h]; rfl
theorem get_lAt (l : List (List Cel)) (i : Nat) (h : i < l.length) : l[i]? = some (lAt l i) := by
  unfold lAt; rw [List.getD_eq_getElem?_getD, List.getElem?_eq_getElem h]; rfl
theorem gtab_self (l : List (List Cel)) : gtab l.length (lAt l) = l := by
  apply List.ext_getElem?
  intro i
  by_cases h : i < l.length
  · rw [gtab_get _ _ _ h, get_lAt l i h]
  · rw [gtab_no _ _ _ (by omega), List.getElem?_eq_none (by omega)]
theorem gtab_eq {n : Nat} {f g : Nat → List Cel} (h : ∀ i, i < n → f i = g i) : gtab n f = gtab n g := by
  apply List.ext_getElem?
  intro i
  by_cases hi : i < n
  · rw [gtab_get _ _ _ hi, gtab_get _ _ _ hi, h i hi]
  · rw [gtab_no _ _ _ (by omega), gtab_no _ _ _ (by omega)]
theorem gtab_is {l : List (List Cel)} {n : Nat} {f : Nat → List Cel} (hn : l.length = n) (h : ∀ i, i < n → lAt l i = f i) : l = gtab n f := by
  subst hn; rw [← gtab_eq h, gtab_self]
theorem set_lAt (l : List (List Cel)) (r i : Nat) (x : List Cel) (h : i < l.length) : lAt (l.set r x) i = if i = r then x else lAt l i := by
  unfold lAt
  rw [List.getD_eq_getElem?_getD, List.getElem?_set]
  by_cases q : r = i
  · subst q; simp [h]
  · rw [if_neg q, if_neg (Ne.symm q), List.getD_eq_getElem?_getD]
theorem set_same (l : List (List Cel)) (r : Nat) : l.set r (lAt l r) = l := by
  apply List.ext_getElem?
  intro i
  rw [List.getElem?_set]
  by_cases h : r = i
  · subst h
    by_cases q : r < l.length
    · rw [if_pos rfl, if_pos q, get_lAt l r q]
    · simp [q]
  · simp [h]
theorem set_gtab (l : List (List Cel)) (r : Nat) (x : List Cel) : l.set r x = gtab l.length (fun i => if i = r then x else lAt l i) := by
  refine gtab_is (by simp) fun i hi => set_lAt l r i x hi

/-- Is there such a row? -/
def hasG (n : Nat) (r : Int) : Prop := 0 ≤ r ∧ r < (n : Int)
instance (n : Nat) (r : Int) : Decidable (hasG n r) := by unfold hasG; infer_instance
/-- A number, brought to those below a count. -/
def nearN (x : Int) (n : Nat) : Nat := (min (max x 0) ((n : Int) - 1)).toNat
theorem nearN_lt (x : Int) (n : Nat) (h : 1 ≤ n) : nearN x n < n := by unfold nearN; omega
theorem nearN_self (k n : Nat) (h : k < n) : nearN (k : Int) n = k := by unfold nearN; omega
def sizeN (r c : Int) : Prop := (1 ≤ r ∧ r ≤ 512) ∧ (1 ≤ c ∧ c ≤ 512)
instance (r c : Int) : Decidable (sizeN r c) := by unfold sizeN; infer_instance

def newG (R C : Nat) : Gd := ⟨gtab R (fun _ => newC (C : Int)), 0, 0⟩
def putG (g : Gd) (r c : Int) (x : Cel) : Gd := if hasG g.ls.length r then { g with ls := g.ls.set r.toNat (putC (lAt g.ls r.toNat) c x) } else g
def layOk (g : Gd) (r : Int) (l : List Cel) (C : Nat) : Bool := decide (hasG g.ls.length r) && (decide (l.length = C) && rightL l)
def layG (g : Gd) (r : Int) (l : List Cel) (C : Nat) : Gd := if layOk g r l C = true then { g with ls := g.ls.set r.toNat l } else g
def moveG (g : Gd) (r c : Int) (C : Nat) : Gd := { g with row := nearN r g.ls.length, col := nearN c C }
def fitAtG (ls : List (List Cel)) (C : Nat) (i : Nat) : List Cel := if i < ls.length then fitC (lAt ls i) (C : Int) else newC (C : Int)
def fitG (g : Gd) (R C : Nat) : Gd := ⟨gtab R (fitAtG g.ls C), nearN (g.row : Int) R, nearN (g.col : Int) C⟩

/-- What a grid always is: R lines of C cells, all right, the cursor within. -/
structure GOk (g : Gd) (R C : Nat) : Prop where
  r1 : 1 ≤ R
  r2 : R ≤ 512
  c1 : 1 ≤ C
  c2 : C ≤ 512
  len : g.ls.length = R
  each : ∀ i, i < R → (lAt g.ls i).length = C ∧ rightL (lAt g.ls i) = true ∧ LB (lAt g.ls i)
  row : g.row < R
  col : g.col < C

theorem lenN_nat (C : Nat) (h : C ≤ 512) : lenN (C : Int) = C := by unfold lenN; omega
theorem newC_len (C : Nat) (h : C ≤ 512) : (newC (C : Int)).length = C := by rw [newC, tab_len, lenN_nat C h]
theorem newC_is (C : Nat) (h : C ≤ 512) : newC (C : Int) = tab C (fun _ => blankC zeroP) := by unfold newC; rw [lenN_nat C h]
theorem right_blanks (C : Nat) {p : Pn} (hp : rightN p = true) : rightL (tab C (fun _ => blankC p)) = true := by
  rw [rightL_iff]
  intro i hi
  rw [tab_len] at hi
  have hw : wAt (tab C fun _ => blankC p) i = 1 := tab_wAt _ _ _ hi
  rw [okAt_iff, tab_cAt _ _ _ hi]
  exact ⟨right_blank hp, alone_1 hw, fun h => by omega⟩
theorem right_new (C : Nat) (h : C ≤ 512) : rightL (newC (C : Int)) = true := by rw [newC_is C h]; exact right_blanks C (by decide)
theorem fit_nil (C : Nat) : fitC [] (C : Int) = newC (C : Int) := by
  unfold fitC fitTab newC
  have e : tab (lenN (C : Int)) (fun i => if i < ([] : List Cel).length then cAt [] i else blankC zeroP) = tab (lenN (C : Int)) (fun _ => blankC zeroP) := tab_eq fun i hi => by rw [if_neg (by simp)]
  rw [e]
  refine mend_stays fun i hi => ?_
  rw [tab_len] at hi
  exact alone_1 (tab_wAt _ _ _ hi)
theorem fitAtG_is (ls : List (List Cel)) (C i : Nat) : fitAtG ls C i = fitC (lAt ls i) (C : Int) := by
  unfold fitAtG
  split
  · rfl
  · rename_i h
    rw [show lAt ls i = [] by unfold lAt; rw [List.getD_eq_getElem?_getD, List.getElem?_eq_none (by omega)]; rfl, fit_nil]
section
variable {g : Gd} {R C : Nat}
theorem GOk.new (r1 : 1 ≤ R) (r2 : R ≤ 512) (c1 : 1 ≤ C) (c2 : C ≤ 512) : GOk (newG R C) R C :=
  ⟨r1, r2, c1, c2, gtab_len _ _, fun i hi => by
    have e : lAt (newG R C).ls i = newC (C : Int) := gtab_lAt _ _ _ hi
    rw [e]
    exact ⟨newC_len C c2, right_new C c2, LB_new _⟩, by show 0 < R; omega, by show 0 < C; omega⟩
theorem GOk.set (h : GOk g R C) (r : Nat) (l : List Cel) (hl : l.length = C ∧ rightL l = true ∧ LB l) : GOk { g with ls := g.ls.set r l } R C :=
  ⟨h.r1, h.r2, h.c1, h.c2, by rw [List.length_set]; exact h.len, fun i hi => by
    show (lAt (g.ls.set r l) i).length = C ∧ rightL (lAt (g.ls.set r l) i) = true ∧ LB (lAt (g.ls.set r l) i)
    rw [set_lAt _ _ _ _ (by rw [h.len]; exact hi)]
    split
    · exact hl
    · exact h.each i hi, h.row, h.col⟩
theorem GOk.at (h : GOk g R C) {r : Int} (hr : hasG g.ls.length r) : r.toNat < R := by have := h.len; unfold hasG at hr; omega
theorem GOk.put (h : GOk g R C) (r c : Int) (x : Cel) (hx : CelB x) : GOk (putG g r c x) R C := by
  unfold putG
  split
  · rename_i hr
    obtain ⟨h1, h2, h3⟩ := h.each _ (h.at hr)
    exact h.set _ _ ⟨by rw [put_len, h1], right_put h2, LB_put h3 hx⟩
  · exact h
theorem GOk.lay (h : GOk g R C) (r : Int) (l : List Cel) (hl : LB l) : GOk (layG g r l C) R C := by
  unfold layG
  split
  · rename_i hr
    unfold layOk at hr
    simp only [Bool.and_eq_true, decide_eq_true_iff] at hr
    exact h.set _ _ ⟨hr.2.1, hr.2.2, hl⟩
  · exact h
theorem GOk.fit (h : GOk g R C) {R' C' : Nat} (r1 : 1 ≤ R') (r2 : R' ≤ 512) (c1 : 1 ≤ C') (c2 : C' ≤ 512) : GOk (fitG g R' C') R' C' := by
  refine ⟨r1, r2, c1, c2, gtab_len _ _, fun i hi => ?_, nearN_lt _ _ r1, nearN_lt _ _ c1⟩
  have e : lAt (fitG g R' C').ls i = fitAtG g.ls C' i := gtab_lAt _ _ _ hi
  rw [e]
  unfold fitAtG
  split
  · rename_i q
    obtain ⟨h1, h2, h3⟩ := h.each i (by rw [← h.len]; exact q)
    exact ⟨by rw [fit_len, lenN_nat _ c2], right_fit h2, LB_fit h3⟩
  · exact ⟨newC_len _ c2, right_new _ c2, LB_new _⟩
end
end Go.Proofs.YtcbdokocnjoilaaGreatDoor
