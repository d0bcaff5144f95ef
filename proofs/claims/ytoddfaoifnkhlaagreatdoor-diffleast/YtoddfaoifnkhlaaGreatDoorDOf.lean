/-
  Contracts: the difference from one grid to another one (the program's).
-/
import Derived.Test.YtoddfaoifnkhlaaGreatDoorDLaw
import Derived.Test.YtoddfaoifnkhlaaGreatDoorB11
import Derived.Test.YtoddfaoifnkhlaaGreatDoorB8
import Derived.Test.YtoddfaoifnkhlaaGreatDoorB7
import Derived.BigQuiet
import Derived.Deep.LoopGhost
import Derived.Deep.DeepCutAuto
import Derived.Deep.CutRange
namespace Go.Proofs.YtoddfaoifnkhlaaGreatDoor
set_option maxRecDepth 100000
open Go.ChangeShapes Go.WideShapes Go.ChangeAt Go.RowKit
set_option linter.unusedVariables false

theorem Grd.kept {w w' : World} {G L M R C : Nat} {g : Gd} (h : Grd w G L M R C g) (h1 : Stays 102 w w') (h2 : Stays 45 w w') (h3 : Stays 65 w w') : Grd w' G L M R C g := by
  obtain ⟨cap, ps, room, more, h⟩ := h
  exact ⟨cap, ps, room, more, h.same (h1 G _ (by simpa [Whole] using h.top)) (h2 L _ (by simpa [Whole] using h.lines)) (h3 M _ (by simpa [Whole] using h.piece))⟩
theorem neAt_of {x y : List Cel} {i : Nat} {c d : Cel} (h1 : cAt x i = c) (h2 : cAt y i = d) : neAt x y i = decide (c ≠ d) := by unfold neAt; rw [h1, h2]
theorem arA {j C : Nat} (h : j + 0 = C) (h2 : j < C) : False := by omega
theorem arL {k g R : Nat} (h : k + (g + 1) = R) : k < R := by omega
theorem arS {k g R : Nat} (h : k + (g + 1) = R) : k + 1 + g = R := by omega
theorem arT {j C : Nat} (h : j + 1 = C) : ((j : Int) + 1 == (C : Int)) = true := by simp; omega
theorem arF {j C : Nat} (h : ¬ j + 1 = C) : ((j : Int) + 1 == (C : Int)) = false := by simp; omega
theorem arN {j C : Nat} (h : ¬ j + 1 = C) (hj : j < C) : j + 1 < C := by omega
theorem arE {j a e C : Nat} (h : j < a) (h1 : a < e) (h2 : e ≤ C) : ((j : Int) + 1 == (C : Int)) = false := by simp; omega
theorem arQ1 {q e g C : Nat} (h : q = e + g) (hq : q ≤ C) (h1 : 0 < e) : q - 1 < C := by omega
theorem arQ2 {q e g : Nat} (h : q = e + (g + 1)) : e ≤ q - 1 := by omega
theorem arQ3 {q e g : Nat} (h : q = e + (g + 1)) : q - 1 = e + g := by omega
theorem arZ {q e g : Nat} (h : q = e + g) (h1 : 0 < e) : (q : Int) - 1 = ((q - 1 : Nat) : Int) := by omega
theorem arH {k R : Nat} (h : k < R) : hasG R (k : Int) := by unfold hasG; omega
theorem arV (q g : Nat) : 0 + q = q := Nat.zero_add q
theorem span_len {Y : List Cel} {C q j m : Nat} (hY : Y.length = C) (h2 : q ≤ C) (hm : q - j = m) : ((Y.take q).drop j).length = m := by rw [List.length_drop, List.length_take, hY, Nat.min_eq_left h2, hm]
theorem celsT_part {C : Nat} {t : TypeId} {k : IntKind} {w : World} {g : Nat} {Y : List Cel} (h : CelsT C t k w (some ⟨g, 0, none⟩) Y) (q j : Nat) : CelsT C t k w (some ⟨g, j * 7, none⟩) ((Y.take q).drop j) := by
  have := (h.take q).from j
  rwa [Nat.zero_add] at this
theorem spans_le {f b : Gd} {R C : Nat} (hf : GOk f R C) (hb : GOk b R C) (k : Nat) (hk : k < R) : (spansTo f.ls b.ls C k).length ≤ 1000000 := by
  have := spans_len hf hb k (Nat.le_of_lt hk)
  have := hf.r2
  omega
theorem span_two (x y : List Cel) (C r : Nat) : (spanAt x y C r = [] ∧ ∀ i, i < C → neAt x y i = false) ∨ ∃ a e : Nat, a < e ∧ e ≤ C ∧ spanAt x y C r = [⟨(r : Int), (a : Int), (y.take e).drop a⟩] ∧ neAt x y a = true ∧ neAt x y (e - 1) = true ∧ (∀ i, i < a → neAt x y i = false) ∧ ∀ i, e ≤ i → i < C → neAt x y i = false := by
  unfold spanAt
  rcases fl_is x y C with ⟨h1, h2, h3⟩ | ⟨a, b, h1, h2, h3, h4, h5, h6, h7, h8⟩
  · exact .inl ⟨by rw [if_pos (by omega)], h3⟩
  · refine .inr ⟨a, b + 1, by omega, by omega, ?_, h5, by simpa using h6, h7, fun i hi => h8 i (by omega)⟩
    rw [if_neg (by omega), h1, h2]
    rfl
set_option maxHeartbeats 2000000 in
theorem dfother_any (z : Int) (i C : Nat) (hz : z = (i : Int)) (x y : List Cel) (q1 q2 : Nat) (A1 A2 : Option Addr) (c1 c2 : Nat) (w : World) (h1 : Whole w q1 45 [.slice A1 C c1]) (h2 : Whole w q2 45 [.slice A2 C c2]) (hx : Cels .i32 w A1 x) (hy : Cels .i32 w A2 y) (lx : x.length = C) (ly : y.length = C) (hi : i < C) :
    Calls Tryz.prog 40 #[.int .i64 z, .pointer (some ⟨q1, 0, none⟩), .pointer (some ⟨q2, 0, none⟩)] w (Said (neAt x y i) w) := by
  subst hz
  have nC := @neqCell
  have f1 : w.cell? ⟨q1, 0, none⟩ = some (.slice A1 C c1) := h1.cell 0
  have f2 : w.cell? ⟨q2, 0, none⟩ = some (.slice A2 C c2) := h2.cell 0
  have l1 := h1.lt
  have l2 := h2.lt
  obtain ⟨b1, o1, rfl, lb1, -⟩ := hx.at (i := i) (by omega)
  obtain ⟨b2, o2, rfl, lb2, -⟩ := hy.at (i := i) (by omega)
  obtain ⟨⟨r, s, m, u, ⟨f, g, b⟩⟩, hc⟩ : ∃ q, cAt x i = q := ⟨_, rfl⟩
  obtain ⟨⟨r', s', m', u', ⟨f', g', b'⟩⟩, hc2⟩ : ∃ q, cAt y i = q := ⟨_, rfl⟩
  obtain ⟨u0, u1, u2, u3, u4, u5, u6, -⟩ := hx.sevenC i (by omega) hc
  obtain ⟨v0, v1, v2, v3, v4, v5, v6, -⟩ := hy.sevenC i (by omega) hc2
  have hne := neAt_of hc hc2
  have hq : eqC r s m (u : Int) (f : Int) (g : Int) (b : Int) r' s' m' (u' : Int) (f' : Int) (g' : Int) (b' : Int) = !(neAt x y i) := by
    rw [eqC_cel, hne]
    by_cases q : (⟨r, s, m, u, ⟨f, g, b⟩⟩ : Cel) = ⟨r', s', m', u', ⟨f', g', b'⟩⟩ <;> simp [q]
  obtain ⟨bo, hbo⟩ : ∃ bo, neAt x y i = bo := ⟨_, rfl⟩
  rw [hbo] at hq ⊢
  clear hbo hne hc hc2 h1 h2 hx hy lx ly
  cases bo
  · go_enter Tryz.func40, Tryz.ntmps40
    go_wp2
    go_quiet (fail)
    go_wp2
    go_ret
    exact ⟨rfl, (Below.refl _ _).drewN _⟩
  · go_enter Tryz.func40, Tryz.ntmps40
    go_wp2
    go_quiet (fail)
    go_wp2
    go_ret
    exact ⟨rfl, (Below.refl _ _).drewN _⟩
theorem dfof_nil1 (p : Option Addr) (w : World) : Calls Tryz.prog 10 #[.pointer none, .pointer p] w fun e w' => e = .returned (.agg #[.int .i64 0, .int .i64 0, .int .i64 0, .int .i64 0, .slice none 0 0]) ∧ Below w.heap.size w w' := by
  have HB : Hid (Below w.heap.size w (w.alloc (.cells #[.int .i64 0, .int .i64 0, .int .i64 0, .int .i64 0, .slice none 0 0] 33))) := (Below.refl _ _).alloc (Nat.le_refl _) _
  go_enter Tryz.func10, Tryz.ntmps10
  go_wp2
  go_step3
  go_wp2
  rw [Exit.noGoto_ret]
  exact retDf Tryz.results10 rfl rfl (Whole.new w 33 [.int .i64 0, .int .i64 0, .int .i64 0, .int .i64 0, .slice none 0 0]) ⟨rfl, HB.out⟩
theorem dfof_nil2 (G : Nat) (w : World) : Calls Tryz.prog 10 #[.pointer (some ⟨G, 0, none⟩), .pointer none] w fun e w' => e = .returned (.agg #[.int .i64 0, .int .i64 0, .int .i64 0, .int .i64 0, .slice none 0 0]) ∧ Below w.heap.size w w' := by
  have HB : Hid (Below w.heap.size w (w.alloc (.cells #[.int .i64 0, .int .i64 0, .int .i64 0, .int .i64 0, .slice none 0 0] 33))) := (Below.refl _ _).alloc (Nat.le_refl _) _
  go_enter Tryz.func10, Tryz.ntmps10
  go_wp2
  go_step3
  go_wp2
  rw [Exit.noGoto_ret]
  exact retDf Tryz.results10 rfl rfl (Whole.new w 33 [.int .i64 0, .int .i64 0, .int .i64 0, .int .i64 0, .slice none 0 0]) ⟨rfl, HB.out⟩
set_option maxHeartbeats 3000000 in
theorem dfof_any {w : World} {G L M R' C' : Nat} {a : Gd} {G2 L2 M2 R C : Nat} {b : Gd} (ha : Grd w G L M R' C' a) (hoa : GOk a R' C') (hb : Grd w G2 L2 M2 R C b) (hob : GOk b R C) :
    Calls Tryz.prog 10 #[.pointer (some ⟨G, 0, none⟩), .pointer (some ⟨G2, 0, none⟩)] w (GaveDf 47 65 .i32 (ofD a b R C) w) := by
  have r1 := hob.r1
  have r2 := hob.r2
  have c1 := hob.c1
  have c2 := hob.c2
  have hC' := hoa.c2
  obtain ⟨W0, hW0⟩ : ∃ W0, w.alloc (.cells #[.int .i64 0, .int .i64 0, .int .i64 0, .int .i64 0, .slice none 0 0] 33) = W0 := ⟨_, rfl⟩
  obtain ⟨W1, hW1⟩ : ∃ W1, W0.alloc (.cells #[.int .i64 R, .int .i64 C, .int .i64 b.row, .int .i64 b.col, .slice none 0 0] 33) = W1 := ⟨_, rfl⟩
  have hb0 : Below w.heap.size w W0 := by rw [← hW0]; exact new1W _ _
  have hb1 : Below W0.heap.size W0 W1 := by rw [← hW1]; exact new1W _ _
  have hs0 : W0.heap.size = w.heap.size + 1 := by rw [← hW0]; simp
  have HB1 : Hid (Below w.heap.size w W1) := hb0.trans (hb1.mono hb0.size)
  have HR1 : Hid (Whole W1 w.heap.size 33 [.int .i64 0, .int .i64 0, .int .i64 0, .int .i64 0, .slice none 0 0]) := by unfold Hid; rw [← hW1, ← hW0]; exact (Whole.new w 33 [.int .i64 0, .int .i64 0, .int .i64 0, .int .i64 0, .slice none 0 0]).alloc _
  have HD1 : Hid (Whole W1 (w.heap.size + 1) 33 [.int .i64 R, .int .i64 C, .int .i64 b.row, .int .i64 b.col, .slice none 0 0]) := by unfold Hid; rw [← hW1, ← hs0]; exact Whole.new W0 33 [.int .i64 R, .int .i64 C, .int .i64 b.row, .int .i64 b.col, .slice none 0 0]
  have HG0 := hide (hb.later hb0)
  have HA1 := hide (ha.later HB1.out)
  have HG1 := hide (hb.later HB1.out)
  have HOA := hide hoa
  have HOB := hide hob
  have HS0 := hide hs0
  have HW0 := hide hW0
  have HW1 := hide hW1
  have hfit := hoa.fit r1 r2 c1 c2
  clear hW0 hW1 hb0 hb1 hs0 ha hb hoa hob
  obtain ⟨d0, d1, d2, d3, d4, ld⟩ := cells5 HD1.out
  go_enter Tryz.func10, Tryz.ntmps10
  go_wp2
  go_step3
  go_wp2_with fail
  rw [HW0.out]
  refine (rows_any HG0.out).mono ?_
  rintro e k1 ⟨rfl, rfl⟩
  go_wp2_with fail
  refine (cols_any HG0.out r1).mono ?_
  rintro e k1 ⟨rfl, rfl⟩
  go_wp2_with fail
  refine (row_any HG0.out).mono ?_
  rintro e k1 ⟨rfl, rfl⟩
  go_wp2_with fail
  refine (col_any HG0.out).mono ?_
  rintro e k1 ⟨rfl, rfl⟩
  go_wp2_with fail
  rw [HW1.out, HS0.out]
  refine (fit_yes HA1.out hC' R C r1 r2 c1 c2).mono ?_
  rintro e W2 ⟨G3, L3, M3, rfl, hg, hb, n1, n2, n3⟩
  obtain ⟨fg, hfg⟩ : ∃ fg, fitG a R C = fg := ⟨_, rfl⟩
  rw [hfg] at hg hfit
  have HFG := hide hfg
  have HF2 := hide hg
  have HG2 := hide (HG1.out.later hb)
  have HFO := hide hfit
  have HR2 := hide (HR1.out.later hb)
  have HB2 := hide (HB1.out.trans (hb.mono HB1.out.size))
  have hD2 := HD1.out.later hb
  obtain ⟨Q, hQ⟩ : ∃ Q, w.heap.size + 1 = Q := ⟨_, rfl⟩
  rw [hQ] at hD2 ⊢
  have hQle : w.heap.size ≤ Q := hQ ▸ Nat.le_succ _
  have HQ := hide hQ
  have HU2 : Hid (Ud 33 47 65 .i32 w.heap.size Q Q W2 W2 R C b.row b.col (.slice none 0 0) (spansTo fg.ls b.ls C 0)) := ⟨hD2, OwnS.start (Nat.le_of_lt hD2.lt) hQle, Nat.le_refl _⟩
  clear hg hb n1 n2 n3 hfg hfit d0 d1 d2 d3 d4 ld hQ
  obtain ⟨d0, d1, d2, d3, d4, ld⟩ := cells5 hD2
  clear hD2
  go_wp2
  go_step3
  go_wp2
  clear d0 d1 d2 d3 d4 ld
  go_loopg [41] R (fun g i wr => ∃ (k : Nat) (v : Value), k + g = R ∧ i = .int .i64 k ∧ Ud 33 47 65 .i32 w.heap.size Q Q W2 wr R C b.row b.col v (spansTo fg.ls b.ls C k) ∧ Hid (∀ t', t' ≠ 47 → t' ≠ 33 → Stays t' W2 wr))
  case atStart => exact ⟨0, _, Nat.zero_add _, rfl, HU2.out, fun t' _ _ => Stays.of_below (Below.refl _ _)⟩
  case round =>
    obtain ⟨k, v, hkg, rfl, hu, HST⟩ := hrel
    have HU := hide hu
    clear hu
    have HF := hide (HF2.out.kept (HST.out _ (by decide) (by decide)) (HST.out _ (by decide) (by decide)) (HST.out _ (by decide) (by decide)))
    have HG := hide (HG2.out.kept (HST.out _ (by decide) (by decide)) (HST.out _ (by decide) (by decide)) (HST.out _ (by decide) (by decide)))
    cases gk with
    | zero =>
      have hk : k = R := hkg
      subst hk
      obtain ⟨A3, c3, rfl⟩ := HU.out.slice
      obtain ⟨mm, hmm⟩ : ∃ mm, (spansTo fg.ls b.ls C k).length = mm := ⟨_, rfl⟩
      have HR := hide (HR2.out.below HU.out.own.bel (by rw [← HQ.out]; exact Nat.lt_succ_self _))
      have HD := hide (HU.out.done (d := ofD a b k C) HB2.out (by rw [← HQ.out]; exact Nat.le_succ _) (by unfold ofD; rw [HFG.out]) HR.out (Nat.le_refl _) (by decide) (by decide) (.int .i64 (k : Int)) (.int .i64 (C : Int)) (.int .i64 b.row) (.int .i64 b.col) (.slice A3 mm c3))
      rw [hmm] at HU HD
      have HP := hide (put5 HR.out (.int .i64 (k : Int)) (.int .i64 (C : Int)) (.int .i64 b.row) (.int .i64 b.col) (.slice A3 mm c3))
      obtain ⟨g0, g1, g2, g3, g4, lg⟩ := cells5 HU.out.out
      obtain ⟨z0, z1, z2, z3, z4, lr⟩ := cells5 HR.out
      have fr := HR.out.frozen
      clear hmm
      go_wp2
      rw [Exit.noGoto_ret]
      obtain ⟨A4, c4, e4, h5, h6⟩ := HD.out
      exact retDf Tryz.results10 rfl rfl HP.out ⟨A4, c4, by rw [e4]; rfl, h5, h6⟩
    | succ g =>
      have hlt : k < R := arL hkg
      have HLX := hide (HFO.out.each k hlt).1
      have HLY := hide (HOB.out.each k hlt).1
      have hsn := spans_next fg.ls b.ls C k
      have hhas : hasG R (k : Int) := arH hlt
      have HHAS := hide hhas
      obtain ⟨X, hX⟩ : ∃ X, lAt fg.ls k = X := ⟨_, rfl⟩
      obtain ⟨Y, hY⟩ : ∃ Y, lAt b.ls k = Y := ⟨_, rfl⟩
      rw [hX] at HLX
      rw [hY] at HLY
      rw [hX, hY] at hsn
      have HSN := hide hsn
      have HXX := hide hX
      have HYY := hide hY
      have HC6 : Hid (C ≤ 1000000) := Nat.le_trans c2 (by decide)
      clear hsn hhas hX hY
      go_wp2_with fail
      refine (gline_any HF.out (k : Int) HHAS.out HC6.out).mono ?_
      rw [Int.toNat_natCast, HXX.out]
      rintro e k1 ⟨v1, rfl, ho1⟩
      obtain ⟨A1, c1', rfl, hc1, hn1, hz1, -⟩ := ho1.typed (C := w.heap.size)
      rw [HLX.out]
      have HGk := hide (HG.out.later ho1.bel)
      go_wp2_with fail
      refine (gline_any HGk.out (k : Int) HHAS.out HC6.out).mono ?_
      rw [Int.toNat_natCast, HYY.out]
      rintro e k2 ⟨v2, rfl, ho2⟩
      obtain ⟨A2, c2', rfl, hc2, hn2, hz2, -⟩ := ho2.typed (C := w.heap.size)
      obtain ⟨gy, rfl⟩ : ∃ gy, A2 = some ⟨gy, 0, none⟩ := by
        rcases ho2.own.2 with ⟨e, h0⟩ | ⟨g5, c5, cur, hv, -⟩
        · rw [HLY.out] at h0; rw [h0] at c1; exact absurd c1 (by decide)
        · simp only [Value.slice.injEq] at hv; exact ⟨g5, hv.1⟩
      rw [HLY.out] at hn2 ⊢
      obtain ⟨P1, hP1⟩ : ∃ P1, k2.heap.size = P1 := ⟨_, rfl⟩
      obtain ⟨P2, hP2⟩ : ∃ P2, k2.heap.size + 1 = P2 := ⟨_, rfl⟩
      obtain ⟨V, hV⟩ : ∃ V, (k2.alloc (.cells #[.slice A1 C c1'] 45)).alloc (.cells #[.slice (some ⟨gy, 0, none⟩) C c2'] 45) = V := ⟨_, rfl⟩
      have hbV : Below k2.heap.size k2 V := by rw [← hV]; exact two_new k2 _ _ [.slice A1 C c1'] [.slice (some ⟨gy, 0, none⟩) C c2']
      have HP1 : Hid (Whole V P1 45 [.slice A1 C c1']) := by unfold Hid; rw [← hV, ← hP1]; exact (Whole.new k2 45 [.slice A1 C c1']).alloc _
      have HP2 : Hid (Whole V P2 45 [.slice (some ⟨gy, 0, none⟩) C c2']) := by unfold Hid; rw [← hV, ← hP2]; exact whole_snd k2 _ 45 [.slice (some ⟨gy, 0, none⟩) C c2']
      have hbr : Below wr.heap.size wr V := ho1.bel.trans ((ho2.bel.trans (hbV.mono ho2.bel.size)).mono ho1.bel.size)
      have HCX := hide (hc1.cels.below (ho2.bel.trans (hbV.mono ho2.bel.size)))
      have HCY : Hid (CelsT w.heap.size 65 .i32 V (some ⟨gy, 0, none⟩) Y) := hc2.below hbV (Nat.le_trans (Nat.le_trans HB2.out.size HU.out.own.bel.size) (Nat.le_trans ho1.bel.size ho2.bel.size))
      have HUV := hide (HU.out.later hbr)
      have HSV : Hid (∀ t', t' ≠ 47 → t' ≠ 33 → Stays t' W2 V) := fun t' q1 q2 => (HST.out t' q1 q2).trans (Stays.of_below hbr)
      have HV := hide hV
      have HP1q := hide hP1
      have HP2q := hide hP2
      have HCN := hide hn2
      clear hc1 hc2 ho1 ho2 hV hP1 hP2 hbV hbr hn1 hn2 hz1 hz2
      clear HU HST HF HG HGk
      go_upto_region 10 with fail
      rw [HV.out, HP2q.out, HP1q.out]
      obtain ⟨d0, d1, d2, d3, d4, ld⟩ := cells5 HUV.out.out
      go_quiet (fail)
      go_wp2
      clear d0 d1 d2 d3 d4 ld
      rcases span_two X Y C k with ⟨h1, h3⟩ | ⟨a0, e0, h1, h2, h3, h4, h5, h6, h7⟩
      · have HNX : Hid (spansTo fg.ls b.ls C (k + 1) = spansTo fg.ls b.ls C k) := by unfold Hid; rw [HSN.out, h1, List.append_nil]
        have HEQ := hide h3
        clear h1 h3
        go_loopg [12] C (fun g2 v wy => ∃ j : Nat, j + g2 = C ∧ j < C ∧ v = .int .i64 j ∧ Hid (Below V.heap.size V wy))
        case atStart => exact ⟨0, Nat.zero_add _, c1, rfl, (Below.refl _ _).drewN _⟩
        case round =>
          obtain ⟨j, hjg, hj, rfl, HBY⟩ := hrel
          cases gk with
          | zero => exact (arA hjg hj).elim
          | succ g2 =>
            have HJ := hide hj
            have HE := hide (HEQ.out j hj)
            go_wp2_with fail
            refine (dfother_any ((j : Int)) j C rfl X Y P1 P2 A1 (some ⟨gy, 0, none⟩) c1' c2' wr (HP1.out.later HBY.out) (HP2.out.later HBY.out) (HCX.out.below HBY.out) (HCY.out.cels.below HBY.out) HLX.out HLY.out HJ.out).mono ?_
            rintro e w5 ⟨rfl, hb5⟩
            rw [HE.out]
            have HB5 := hide (HBY.out.trans (hb5.mono HBY.out.size))
            clear hb5
            by_cases hend : j + 1 = C
            · have e1 : ((j : Int) + 1 == (C : Int)) = true := arT hend
              have HUN := hide (HUV.out.later HB5.out)
              have HSN2 : Hid (∀ t', t' ≠ 47 → t' ≠ 33 → Stays t' W2 w5) := fun t' q1 q2 => (HSV.out t' q1 q2).trans (Stays.of_below HB5.out)
              clear hend
              go_wp2
              go_roundg g
              case measure => exact Nat.lt_succ_self _
              case rel => exact ⟨k + 1, _, arS hkg, by go_num, by rw [HNX.out]; exact HUN.out, HSN2⟩
            · have e1 : ((j : Int) + 1 == (C : Int)) = false := arF hend
              have hj2 : j + 1 < C := arN hend hj
              clear hend
              go_wp2
              go_roundg g2
              case measure => exact Nat.lt_succ_self _
              case rel => exact ⟨j + 1, arS hjg, hj2, by go_num, HB5⟩
      · have HNX : Hid (spansTo fg.ls b.ls C (k + 1) = spansTo fg.ls b.ls C k ++ [⟨(k : Int), (a0 : Int), (Y.take e0).drop a0⟩]) := by unfold Hid; rw [HSN.out, h3]
        have HEA := hide h4
        have HEE := hide h5
        have HLO := hide h6
        have HHI := hide h7
        clear h3 h4 h5 h6 h7
        go_loopg [12] a0 (fun g2 v wy => ∃ j : Nat, j + g2 = a0 ∧ v = .int .i64 j ∧ Hid (Below V.heap.size V wy))
        case atStart => exact ⟨0, Nat.zero_add _, rfl, (Below.refl _ _).drewN _⟩
        case round =>
          obtain ⟨j, hjg, rfl, HBY⟩ := hrel
          cases gk with
          | succ g2 =>
            have hja : j < a0 := arL hjg
            have hjc : j < C := Nat.lt_of_lt_of_le (Nat.lt_trans hja h1) h2
            have HE := hide (HLO.out j hja)
            have e1 : ((j : Int) + 1 == (C : Int)) = false := arE hja h1 h2
            have HJ := hide hjc
            clear hjc
            go_wp2_with fail
            refine (dfother_any ((j : Int)) j C rfl X Y P1 P2 A1 (some ⟨gy, 0, none⟩) c1' c2' wr (HP1.out.later HBY.out) (HP2.out.later HBY.out) (HCX.out.below HBY.out) (HCY.out.cels.below HBY.out) HLX.out HLY.out HJ.out).mono ?_
            rintro e w5 ⟨rfl, hb5⟩
            rw [HE.out]
            have HB5 := hide (HBY.out.trans (hb5.mono HBY.out.size))
            clear hb5
            go_wp2
            go_roundg g2
            case measure => exact Nat.lt_succ_self _
            case rel => exact ⟨j + 1, arS hjg, by go_num, HB5⟩
          | zero =>
            have hja : j = a0 := hjg
            subst hja
            have hjc : j < C := Nat.lt_of_lt_of_le h1 h2
            have HJ := hide hjc
            clear hjc hjg
            go_wp2_with fail
            refine (dfother_any ((j : Int)) j C rfl X Y P1 P2 A1 (some ⟨gy, 0, none⟩) c1' c2' wr (HP1.out.later HBY.out) (HP2.out.later HBY.out) (HCX.out.below HBY.out) (HCY.out.cels.below HBY.out) HLX.out HLY.out HJ.out).mono ?_
            rintro e w5 ⟨rfl, hb5⟩
            rw [HEA.out]
            have HB5 := hide (HBY.out.trans (hb5.mono HBY.out.size))
            clear hb5
            go_wp2
            go_loopg [13] (C - e0) (fun g3 v wz => ∃ q : Nat, q = e0 + g3 ∧ q ≤ C ∧ v = .int .i64 q ∧ Hid (Below V.heap.size V wz))
            case atStart => exact ⟨C, (Nat.add_sub_cancel' h2).symm, Nat.le_refl _, rfl, HB5⟩
            case round =>
              obtain ⟨q, hqg, hq, rfl, HBZ⟩ := hrel
              have HQG := hide hqg
              clear hqg
              have he0 : 0 < e0 := Nat.lt_of_le_of_lt (Nat.zero_le _) h1
              have HZ : Hid ((q : Int) - 1 = ((q - 1 : Nat) : Int)) := arZ HQG.out he0
              cases gk with
              | succ g3 =>
                have hqc : q - 1 < C := arQ1 HQG.out hq he0
                have HQE := hide (HHI.out (q - 1) (arQ2 HQG.out) hqc)
                have HJQ := hide hqc
                clear hqc
                go_wp2_with fail
                refine (dfother_any ((q : Int) - 1) (q - 1) C HZ.out X Y P1 P2 A1 (some ⟨gy, 0, none⟩) c1' c2' wr (HP1.out.later HBZ.out) (HP2.out.later HBZ.out) (HCX.out.below HBZ.out) (HCY.out.cels.below HBZ.out) HLX.out HLY.out HJQ.out).mono ?_
                rintro e w6 ⟨rfl, hb5⟩
                rw [HQE.out]
                have HB5' := hide (HBZ.out.trans (hb5.mono HBZ.out.size))
                clear hb5
                go_wp2
                go_roundg g3
                case measure => exact Nat.lt_succ_self _
                case rel => exact ⟨q - 1, arQ3 HQG.out, Nat.le_of_lt HJQ.out, by rw [HZ.out], HB5'⟩
              | zero =>
                have hqe : q = e0 := HQG.out
                have hqc : q - 1 < C := arQ1 HQG.out hq he0
                clear HQG
                subst hqe
                have HJQ := hide hqc
                clear hqc
                go_wp2_with fail
                refine (dfother_any ((q : Int) - 1) (q - 1) C HZ.out X Y P1 P2 A1 (some ⟨gy, 0, none⟩) c1' c2' wr (HP1.out.later HBZ.out) (HP2.out.later HBZ.out) (HCX.out.below HBZ.out) (HCY.out.cels.below HBZ.out) HLX.out HLY.out HJQ.out).mono ?_
                rintro e w6 ⟨rfl, hb5⟩
                rw [HEE.out]
                have HB6 := hide (HBZ.out.trans (hb5.mono HBZ.out.size))
                clear hb5
                have HUz := hide (HUV.out.later HB6.out)
                have HP2z := hide (HP2.out.later HB6.out)
                have HCZ := hide (celsT_part (HCY.out.below HB6.out (Nat.le_trans (Nat.le_trans HB2.out.size (Nat.le_trans HUV.out.own.bel.size (Nat.le_refl _))) (Nat.le_refl _))) q j)
                have HSz : Hid (∀ t', t' ≠ 47 → t' ≠ 33 → Stays t' W2 w6) := fun t' q1 q2 => (HSV.out t' q1 q2).trans (Stays.of_below HB6.out)
                obtain ⟨A3, c3, rfl⟩ := HUz.out.slice
                obtain ⟨kn, hkn⟩ : ∃ kn, (spansTo fg.ls b.ls C k).length = kn := ⟨_, rfl⟩
                have HKL := hide (spans_le HFO.out HOB.out k hlt)
                rw [hkn] at HUz
                clear hkn
                obtain ⟨m, hm⟩ : ∃ m, q - j = m := ⟨_, rfl⟩
                have HSL := hide (span_len HLY.out h2 hm)
                have HM := hide hm
                have p1 : (0 : Int) ≤ (j : Int) := Int.natCast_nonneg _
                have p2 : (j : Int) ≤ (q : Int) := Int.ofNat_le.2 (Nat.le_of_lt h1)
                have p3 : (q : Int) ≤ (c2' : Int) := Int.ofNat_le.2 (Nat.le_trans h2 HCN.out)
                have p4 : ¬ c2' = j := Nat.ne_of_gt (Nat.lt_of_lt_of_le h1 (Nat.le_trans h2 HCN.out))
                have p5 : ¬ q = j := Nat.ne_of_gt h1
                clear hm
                have ld : 0 < 1 := by decide
                have d0 := ld
                have d1 := ld
                have d2 := ld
                have d3 := ld
                have d4 := ld
                go_upto_region 16 with fail
                refine rgL (fun w' => Below w6.heap.size w6 w') 11 [(0, 2), (0, 3), (0, 5), (0, 6), (0, 7), (0, 0), (0, 1), (1, 4), (1, 8), (1, 9), (1, 10), (3, 11), (3, 12), (3, 13)] ((Below.refl _ _).drewN 1) ?_
                obtain ⟨w7, hw7⟩ : ∃ w7, w6.drew = w7 := ⟨_, rfl⟩
                have B7 : Below w6.heap.size w6 w7 := by rw [← hw7]; exact (Below.refl _ _).drewN 1
                have HU7 := hide (HUz.out.later B7)
                have HC7 := hide (HCZ.out.below B7 (Nat.le_trans HB2.out.size HUz.out.own.bel.size))
                have fP2 : w7.cell? ⟨P2, 0, none⟩ = some (.slice (some ⟨gy, 0, none⟩) C c2') := (HP2z.out.later B7).cell 0
                have lP2 := (HP2z.out.later B7).lt
                rw [hw7]
                clear hw7
                iterate 6 refine stL (h := ?_)
                refine stL (hy := fun w hS => by obtain ⟨f0, f1, f2, f3, f4, -⟩ := cells5 (HUz.out.out.later hS); go_simp <;> with_reducible rfl) (h := ?_)
                refine alL fun K hK => ?_
                go_wp2
                refine hK.out _ _ (B7) ?_
                clear hK K
                clear fP2 lP2
                refine alL fun K hK => ?_
                go_wp2_with (with_reducible refine wpList_val (o := ⟨some 77, _, _, _, _, _⟩) rfl (v := .slice (some ⟨gy, j * 7, none⟩) m m) ?_ ?_)
                · rw [← HM.out]
                  go_simp
                go_wp2
                refine hK.out _ _ B7 ?_
                clear hK K
                refine alL fun K hK => ?_
                go_wp2
                refine hK.out _ _ (B7) ?_
                clear hK K
                refine alL fun K hK => ?_
                go_wp2
                refine hK.out _ _ (B7.alloc B7.size _) ?_
                clear hK K
                refine laL fun K hK => ?_
                go_wp2_with (at_builtin; refine stopw ?_)
                unfold Hid
                refine wpList_pushS elemSp (k : Int) (j : Int) (some ⟨gy, j * 7, none⟩) m ((Y.take q).drop j) m HSL.out HC7.out (Nat.le_refl _) (fun h => by cases h) rfl _ _ rfl rfl rfl HU7.out.own HKL.out (by decide) (by decide) ?_
                intro v2 w2 hown2 hst2 hbl2
                obtain ⟨A5, n5, c5, rfl⟩ := hown2.slice
                have HUN := hide (Ud.grow (HU7.out.out.alloc _) HU7.out.le hown2 hst2 (by decide) (by decide))
                have HQ2 := hide ((HU7.out.out.alloc (.cells #[.int .i64 (k : Int), .int .i64 (j : Int), .slice (some ⟨gy, j * 7, none⟩) m m] 47)).same (hst2 _ (by decide) _ _ (HU7.out.out.alloc (.cells #[.int .i64 (k : Int), .int .i64 (j : Int), .slice (some ⟨gy, j * 7, none⟩) m m] 47))))
                have HSN2 : Hid (∀ t', t' ≠ 47 → t' ≠ 33 → Stays t' W2 (w2.setCell ⟨Q, 4, none⟩ (.slice A5 n5 c5))) := fun t' q1 q2 => ((HSz.out t' q1 q2).trans (Stays.of_below (B7.alloc B7.size _))).trans ((hst2 t' q1).trans (Stays.put HQ2.out q2))
                clear hown2 hst2 hbl2
                go_wp2
                refine hK.out _ _ ?_
                clear hK K
                refine laL fun K hK => ?_
                go_wp2
                refine hK.out _ _ ?_
                clear hK K
                have hfz := HQ2.out.frozen
                clear d0 d1 d2 d3 d4 ld
                obtain ⟨d0, d1, d2, d3, d4, ld⟩ := cells5 HQ2.out
                refine laL fun K hK => ?_
                go_wp2
                refine hK.out _ _ ?_
                clear hK K
                refine chainL_nil ?_
                go_wp2
                go_roundg g
                case measure => exact Nat.lt_succ_self _
                case rel => exact ⟨k + 1, _, arS hkg, by go_num, by rw [HNX.out]; exact HUN.out, HSN2⟩
end Go.Proofs.YtoddfaoifnkhlaaGreatDoor
