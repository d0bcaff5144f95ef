/-
  Contracts: the law's own words: a frame as the document's (Of), a small frame (Cut).
-/
import Derived.Test.YtcbdokocnjoilaaGreatDoorFrBase
import Derived.Test.YtcbdokocnjoilaaGreatDoorH17
import Derived.Test.YtcbdokocnjoilaaGreatDoorH20
namespace Go.Proofs.YtcbdokocnjoilaaGreatDoor
set_option maxRecDepth 100000
open Go.ChangeShapes Go.WideShapes Go.ChangeAt Go.RowKit
set_option linter.unusedVariables false

set_option maxHeartbeats 4000000 in
theorem ldof0_any (C : Nat) (te t : TypeId) (d : Df) (A : Option Addr) (n c : Nat) (w : World) (h : Sps C te t .i32 w A d.ss) (hn : d.ss.length = n) (hl : n ≤ 1000000) (hbd : ∀ s ∈ d.ss, s.cs.length ≤ 1000000) (hlb : ∀ s ∈ d.ss, LB s.cs) :
    Calls Tryz.prog 18 #[.agg #[.int .i64 d.rows, .int .i64 d.cols, .int .i64 d.row, .int .i64 d.col, .slice A n c]] w (GaveDf0 73 100 .i64 d w) := by
  obtain ⟨R, K, r0, l0, ss⟩ := d
  simp only at h hn hbd hlb ⊢
  obtain ⟨W0, hW0⟩ : ∃ W0, ((w.alloc (.cells #[.int .i64 R, .int .i64 K, .int .i64 r0, .int .i64 l0, .slice A n c] 25)).alloc (.cells #[.int .i64 0, .int .i64 0, .int .i64 0, .int .i64 0, .slice none 0 0] 32)).alloc (.cells #[.int .i64 R, .int .i64 K, .int .i64 r0, .int .i64 l0, .slice none 0 0] 32) = W0 := ⟨_, rfl⟩
  have HB0 : Hid (Below w.heap.size w W0) := by unfold Hid; rw [← hW0]; exact three_newW w _ _ _
  have HX0 : Hid (Whole W0 w.heap.size 25 [.int .i64 R, .int .i64 K, .int .i64 r0, .int .i64 l0, .slice A n c]) := by unfold Hid; rw [← hW0]; exact ((Whole.new w 25 [.int .i64 R, .int .i64 K, .int .i64 r0, .int .i64 l0, .slice A n c]).alloc _).alloc _
  have HR0 : Hid (Whole W0 (w.heap.size + 1) 32 [.int .i64 0, .int .i64 0, .int .i64 0, .int .i64 0, .slice none 0 0]) := by unfold Hid; rw [← hW0]; exact (whole_snd w _ 32 [.int .i64 0, .int .i64 0, .int .i64 0, .int .i64 0, .slice none 0 0]).alloc _
  have hO0 : Whole W0 (w.heap.size + 1 + 1) 32 [.int .i64 R, .int .i64 K, .int .i64 r0, .int .i64 l0, .slice none 0 0] := by rw [← hW0]; exact whole_thd w _ _ 32 [.int .i64 R, .int .i64 K, .int .i64 r0, .int .i64 l0, .slice none 0 0]
  have HU0 : Hid (Ud 32 73 100 .i64 0 (w.heap.size + 1 + 1) (w.heap.size + 1 + 1) W0 W0 R K r0 l0 (.slice none 0 0) (ss.take 0)) := ⟨hO0, OwnS.start (Nat.le_of_lt hO0.lt) (by omega), Nat.le_refl _⟩
  have HW0 := hide hW0
  have HA := hide h
  have HN := hide hn
  have HBD := hide hbd
  have HLBS := hide hlb
  clear hW0 h hn hbd hlb hO0
  obtain ⟨d0, d1, d2, d3, d4, ld⟩ := cells5 HX0.out
  go_enter Tryz.func18, Tryz.ntmps18
  go_wp2
  rw [HW0.out]
  clear d0 d1 d2 d3 d4 ld
  go_loopw [4] (fun i wr => ∃ (k : Nat) (v : Value), k ≤ n ∧ i = .int .i64 k ∧ Ud 32 73 100 .i64 0 (w.heap.size + 1 + 1) (w.heap.size + 1 + 1) W0 wr R K r0 l0 v (ss.take k)) (fun i _ => n - (intOf i).toNat)
  case atStart => exact ⟨0, _, Nat.zero_le _, rfl, HU0.out⟩
  case round =>
    obtain ⟨k, v, hk, rfl, hu⟩ := hrel
    have HU := hide hu
    have HXr := hide (HX0.out.below hu.own.bel (by omega))
    clear hu
    obtain ⟨d0, d1, d2, d3, d4, ld⟩ := cells5 HXr.out
    by_cases hlt : k < n
    · obtain ⟨b, off, A1, c1, rfl, lb0, x0, x1, x2, xi, -⟩ := HA.out.at (i := k) (by rw [HN.out]; exact hlt)
      have hbw : Below w.heap.size w wr := HB0.out.trans (HU.out.own.bel.mono (by omega))
      rw [← hbw.cell (p := ⟨b, off + k * 3, none⟩) lb0] at x0
      rw [← hbw.cell (p := ⟨b, off + k * 3 + 1, none⟩) lb0] at x1
      rw [← hbw.cell (p := ⟨b, off + k * 3 + 2, none⟩) lb0] at x2
      have lb : b < wr.heap.size := Nat.lt_of_lt_of_le lb0 hbw.size
      have hlu : (sAt ss k).cs.length ≤ 1000000 := HBD.out _ (mem_sAt ss k (by rw [HN.out]; exact hlt))
      have hlk : LB (sAt ss k).cs := HLBS.out _ (mem_sAt ss k (by rw [HN.out]; exact hlt))
      have hnx := take_nextS ss k (by rw [HN.out]; exact hlt)
      have hci := xi.cels.below hbw
      obtain ⟨x, hx⟩ : ∃ x, sAt ss k = x := ⟨_, rfl⟩
      rw [hx] at x0 x1 x2 hci hlu hlk hnx
      obtain ⟨r, l, cs⟩ := x
      simp only at x0 x1 x2 hci hlu hlk hnx
      obtain ⟨u, hnu⟩ : ∃ u, cs.length = u := ⟨_, rfl⟩
      rw [hnu] at x2 hlu
      have HCI := hide hci
      have HNU := hide hnu
      have HLB := hide hlk
      have HNX := hide hnx
      obtain ⟨A3, c3, rfl⟩ := HU.out.slice
      obtain ⟨kn, hkn⟩ : ∃ kn, (ss.take k).length = kn := ⟨_, rfl⟩
      rw [hkn] at HU
      have HKN := hide hkn
      clear hci hnu hlk hnx hx hkn xi
      obtain ⟨g0, g1, g2, g3, g4, lg⟩ := cells5 HU.out.out
      go_wp2
      refine rgL (fun w' => Below wr.heap.size wr w') 23 [(0, 4), (0, 10), (0, 16), (0, 0), (0, 2), (0, 8), (0, 14), (0, 1), (0, 3), (0, 5), (0, 6), (0, 7), (0, 9), (0, 11), (0, 12), (0, 13), (1, 15), (1, 17), (1, 18), (1, 19), (1, 20), (1, 21), (1, 22), (3, 23), (3, 24), (3, 25)] ((Below.refl _ _).drewN 1) ?_
      iterate 7 refine stL (h := ?_)
      refine stL (hy := fun w hS => by obtain ⟨f0, f1, f2, f3, f4, -⟩ := cells5 (HU.out.out.later hS); go_simp <;> with_reducible rfl) (h := ?_)
      refine stL (hy := fun w hS => by obtain ⟨f0, f1, f2, f3, f4, -⟩ := cells5 (HXr.out.later hS); go_simp <;> with_reducible rfl) (h := ?_)
      iterate 2 refine stL (h := ?_)
      refine stL (hy := fun w hS => by rw [← hS.cell (by simpa using lb)] at x0 x1 x2; go_simp <;> with_reducible rfl) (h := ?_)
      refine stL (hy := fun w hS => by obtain ⟨f0, f1, f2, f3, f4, -⟩ := cells5 (HXr.out.later hS); go_simp <;> with_reducible rfl) (h := ?_)
      iterate 2 refine stL (h := ?_)
      refine stL (hy := fun w hS => by rw [← hS.cell (by simpa using lb)] at x0 x1 x2; go_simp <;> with_reducible rfl) (h := ?_)
      obtain ⟨f0, f1, f2, f3, f4, lf⟩ := cells5 HXr.out.drew
      refine alL fun K hK => ?_
      go_wp2
      refine hK.out _ _ ((Below.refl _ _).drewN 1) ?_
      clear hK K
      refine alL fun K hK => ?_
      go_wp2
      refine hK.out _ _ ((Below.refl _ _).drewN 1) ?_
      clear hK K
      refine alL fun K hK => ?_
      go_wp2
      refine hK.out _ _ ((Below.refl _ _).drewN 1) ?_
      clear hK K
      refine alL fun K hK => ?_
      go_wp2
      refine hK.out _ _ ((Below.refl _ _).drewN 1) ?_
      clear hK K
      refine alL fun K hK => ?_
      go_wp2_with fail
      refine (lineof_any A1 u c1 cs _ HCI.out.drew HNU.out hlu HLB.out).mono ?_
      rintro e k1 ⟨v1, rfl, hown⟩
      obtain ⟨A2, c2, rfl, hct, hn2, hz2, -⟩ := hown.typed (C := 0)
      rw [HNU.out] at hn2 ⊢
      have hb1 : Below wr.heap.size wr k1 := ((Below.refl wr.heap.size wr).drewN 1).trans hown.bel
      have HB1 := hide hb1
      have HCT := hide hct
      clear hb1 hown hct
      go_wp2
      refine hK.out _ _ (HB1.out) ?_
      clear hK K
      refine alL fun K hK => ?_
      go_wp2
      refine hK.out _ _ (HB1.out) ?_
      clear hK K
      refine alL fun K hK => ?_
      go_wp2
      refine hK.out _ _ (HB1.out.alloc HB1.out.size _) ?_
      clear hK K
      refine laL fun K hK => ?_
      go_wp2_with (at_builtin; refine stopw ?_)
      unfold Hid
      refine wpList_pushS elemRSp r l A2 c2 cs u HNU.out HCT.out hn2 hz2 rfl _ _ rfl rfl rfl (HU.out.later HB1.out).own (by rw [List.length_take, HN.out]; omega) (by omega) (by decide) ?_
      intro v2 w2 hown2 hst2 hbl2
      obtain ⟨A5, n5, c5, rfl⟩ := hown2.slice
      have HUN := hide (Ud.grow ((HU.out.later HB1.out).out.alloc _) HU.out.le hown2 hst2 (by decide) (by decide))
      have HQ2 := hide (((HU.out.later HB1.out).out.alloc (.cells #[.int .i64 r, .int .i64 l, .slice A2 u c2] 73)).same (hst2 _ (by decide) _ _ ((HU.out.later HB1.out).out.alloc (.cells #[.int .i64 r, .int .i64 l, .slice A2 u c2] 73))))
      clear hown2 hst2 hbl2
      go_wp2
      refine hK.out _ _ ?_
      clear hK K
      refine laL fun K hK => ?_
      go_wp2
      refine hK.out _ _ ?_
      clear hK K
      have hfz := HQ2.out.frozen
      obtain ⟨g0, g1, g2, g3, g4, lg⟩ := cells5 HQ2.out
      refine laL fun K hK => ?_
      go_wp2
      refine hK.out _ _ ?_
      clear hK K
      refine chainL_nil ?_
      go_wp2
      go_roundw
      case rel => exact ⟨k + 1, _, hlt, by go_num, by rw [HNX.out]; exact HUN.out⟩
      case measure => simp [intOf]; omega
    · have hk2 : k = n := by omega
      obtain ⟨A3, c3, rfl⟩ := HU.out.slice
      have htk : ss.take k = ss := by rw [List.take_of_length_le (by rw [HN.out]; omega)]
      rw [htk] at HU
      rw [htk, HN.out] at *
      have HR := hide (HR0.out.below HU.out.own.bel (by omega))
      have HD := hide (HU.out.done0 (d := ⟨R, K, r0, l0, ss⟩) HB0.out (by omega) rfl HR.out (by omega) (by decide) (by decide) (.int .i64 R) (.int .i64 K) (.int .i64 r0) (.int .i64 l0) (.slice A3 n c3))
      have HP := hide (put5 HR.out (.int .i64 R) (.int .i64 K) (.int .i64 r0) (.int .i64 l0) (.slice A3 n c3))
      obtain ⟨g0, g1, g2, g3, g4, lg⟩ := cells5 HU.out.out
      obtain ⟨z0, z1, z2, z3, z4, lr⟩ := cells5 HR.out
      have fr := HR.out.frozen
      clear d0 d1 d2 d3 d4 ld
      obtain ⟨d0, d1, d2, d3, d4, ld⟩ := cells5 HXr.out
      go_wp2

      obtain ⟨A4, c4, e4, h5, h6⟩ := HD.out
      exact retD1 Tryz.results18 rfl rfl HP.out ⟨A4, c4, by rw [e4], h5, h6⟩
/-- The call gave this frame, whose difference lies in blocks of its own types, and left all that was there. -/
def GaveFm (te t : TypeId) (k : IntKind) (f : Fm) (w : World) (e : Ending) (w' : World) : Prop := ∃ A c, e = .returned (.agg #[.int .u64 f.num, .int .u64 f.base, .int .u64 f.echo, .int .u64 f.stamp, .int .i64 f.d.rows, .int .i64 f.d.cols, .int .i64 f.d.row, .int .i64 f.d.col, .slice A f.d.ss.length c]) ∧ DfOk 0 te t k w' f.d A c ∧ Below w.heap.size w w'
set_option maxHeartbeats 4000000 in
theorem frof_any (C : Nat) (te t : TypeId) (f : Fm) (A : Option Addr) (n c : Nat) (w : World) (h : Sps C te t .i32 w A f.d.ss) (hC : C ≤ w.heap.size) (hn : f.d.ss.length = n) (hl : n ≤ 1000000) (hbd : ∀ s ∈ f.d.ss, s.cs.length ≤ 1000000) (hlb : ∀ s ∈ f.d.ss, LB s.cs) :
    Calls Tryz.prog 6 #[.agg #[.int .u64 f.num, .int .u64 f.base, .int .u64 f.echo, .int .u64 f.stamp, .int .i64 f.d.rows, .int .i64 f.d.cols, .int .i64 f.d.row, .int .i64 f.d.col, .slice A n c]] w (GaveFm 73 100 .i64 f w) := by
  obtain ⟨a1, a2, a3, a4, d⟩ := f
  simp only at h hn hbd hlb ⊢
  obtain ⟨W0, hW0⟩ : ∃ W0, (w.alloc (.cells #[.int .u64 a1, .int .u64 a2, .int .u64 a3, .int .u64 a4, .int .i64 d.rows, .int .i64 d.cols, .int .i64 d.row, .int .i64 d.col, .slice A n c] 27)).alloc (.cells #[.int .u64 0, .int .u64 0, .int .u64 0, .int .u64 0, .int .i64 0, .int .i64 0, .int .i64 0, .int .i64 0, .slice none 0 0] 34) = W0 := ⟨_, rfl⟩
  have HB0 : Hid (Below w.heap.size w W0) := by unfold Hid; rw [← hW0]; exact below2 w _ _
  have HX0 : Hid (Whole W0 w.heap.size 27 [.int .u64 a1, .int .u64 a2, .int .u64 a3, .int .u64 a4, .int .i64 d.rows, .int .i64 d.cols, .int .i64 d.row, .int .i64 d.col, .slice A n c]) := by unfold Hid; rw [← hW0]; exact (Whole.new w 27 [.int .u64 a1, .int .u64 a2, .int .u64 a3, .int .u64 a4, .int .i64 d.rows, .int .i64 d.cols, .int .i64 d.row, .int .i64 d.col, .slice A n c]).alloc _
  have HR0 : Hid (Whole W0 (w.heap.size + 1) 34 [.int .u64 0, .int .u64 0, .int .u64 0, .int .u64 0, .int .i64 0, .int .i64 0, .int .i64 0, .int .i64 0, .slice none 0 0]) := by unfold Hid; rw [← hW0]; exact whole_snd w _ 34 [.int .u64 0, .int .u64 0, .int .u64 0, .int .u64 0, .int .i64 0, .int .i64 0, .int .i64 0, .int .i64 0, .slice none 0 0]
  have HW0 := hide hW0
  have HA := hide h
  have HN := hide hn
  clear hW0 h hn
  go_enter Tryz.func6, Tryz.ntmps6
  go_upto_region 1 with fail
  rw [HW0.out]
  refine rgL (fun w' => Below W0.heap.size W0 w') 11 [(0, 0), (0, 2), (0, 4), (0, 6), (0, 8), (0, 1), (0, 3), (0, 5), (0, 7), (1, 9), (1, 10), (3, 11), (3, 12)] ((Below.refl _ _).drewN 1) ?_
  have BD : Hid (Below W0.heap.size W0 W0.drew) := (Below.refl _ _).drewN 1
  generalize W0.drew = wd at *
  iterate 5 refine stL (h := ?_)
  refine stL (hy := fun w hS => by obtain ⟨f0, f1, f2, f3, f4, f5, f6, f7, f8, -⟩ := cells9 (HX0.out.later hS); go_simp <;> with_reducible rfl) (h := ?_)
  refine stL (hy := fun w hS => by obtain ⟨f0, f1, f2, f3, f4, f5, f6, f7, f8, -⟩ := cells9 (HX0.out.later hS); go_simp <;> with_reducible rfl) (h := ?_)
  refine stL (hy := fun w hS => by obtain ⟨f0, f1, f2, f3, f4, f5, f6, f7, f8, -⟩ := cells9 (HX0.out.later hS); go_simp <;> with_reducible rfl) (h := ?_)
  refine stL (hy := fun w hS => by obtain ⟨f0, f1, f2, f3, f4, f5, f6, f7, f8, -⟩ := cells9 (HX0.out.later hS); go_simp <;> with_reducible rfl) (h := ?_)
  obtain ⟨f0, f1, f2, f3, f4, f5, f6, f7, f8, lf⟩ := cells9 (HX0.out.later BD.out)
  refine alL fun K hK => ?_
  go_wp2
  refine hK.out _ _ (BD.out) ?_
  clear hK K
  refine alL fun K hK => ?_
  go_wp2_with fail
  refine (ldof0_any C te t d A n c wd (HA.out.below (HB0.out.trans (BD.out.mono HB0.out.size)) hC) HN.out hl hbd hlb).mono ?_
  rintro e k1 ⟨A2, c2, rfl, hd, hb⟩
  rw [HN.out]
  have B1 := hide (BD.out.trans (hb.mono BD.out.size))
  have HD := hide hd
  clear hd hb
  clear f0 f1 f2 f3 f4 f5 f6 f7 f8 lf
  go_wp2
  refine hK.out _ _ (B1.out) ?_
  clear hK K
  refine laL fun K hK => ?_
  go_wp2
  refine hK.out _ _ ?_
  clear hK K
  have HR1 := hide (HR0.out.later B1.out)
  obtain ⟨z0, z1, z2, z3, z4, z5, z6, z7, z8, lz⟩ := cells9 HR1.out
  have zz := HR1.out.frozen
  refine laL fun K hK => ?_
  go_wp2
  refine hK.out _ _ ?_
  clear hK K
  refine chainL_nil ?_
  go_wp2
  refine ret9 Tryz.results6 (.inr rfl) rfl rfl (put9 HR1.out _ _ _ _ _ _ _ _ _) ?_
  exact ⟨A2, c2, by rw [HN.out], dfok_put9 HD.out HR1.out (by decide) (by decide) _ _ _ _ _ _ _ _ _, below_put9 (HB0.out.trans (B1.out.mono HB0.out.size)) (Nat.le_succ _) _ _ _ _ _ _ _ _ _⟩
/-! ### a small frame -/
def cutFm (f : Fm) : Fm := ⟨f.num, f.base, f.echo, f.stamp, cutD f.d⟩
theorem cutFm_ok {f : Fm} (h : FmOk f) : FmOk (cutFm f) := ⟨h.num, h.base, h.echo, h.stamp⟩
section
variable {w W : World} {q B : Nat} {t t' : TypeId} {l : List Value} {y0 y1 y2 y3 y4 y5 y6 y7 y8 : Value}
abbrev set5at (w : World) (q : Nat) (x4 x5 x6 x7 x8 : Value) : World := ((((w.setCell ⟨q, 4, none⟩ x4).setCell ⟨q, 5, none⟩ x5).setCell ⟨q, 6, none⟩ x6).setCell ⟨q, 7, none⟩ x7).setCell ⟨q, 8, none⟩ x8
theorem put5at (hw : Whole w q t [y0, y1, y2, y3, y4, y5, y6, y7, y8]) (x4 x5 x6 x7 x8 : Value) : Whole (set5at w q x4 x5 x6 x7 x8) q t [y0, y1, y2, y3, x4, x5, x6, x7, x8] := ((((hw.put 4 x4).put 5 x5).put 6 x6).put 7 x7).put 8 x8
theorem below_put5at (h : Below B W w) (hq : B ≤ q) (x4 x5 x6 x7 x8 : Value) : Below B W (set5at w q x4 x5 x6 x7 x8) :=
  ((((h.setCell (p := ⟨q, 4, none⟩) hq x4).setCell (p := ⟨q, 5, none⟩) hq x5).setCell (p := ⟨q, 6, none⟩) hq x6).setCell (p := ⟨q, 7, none⟩) hq x7).setCell (p := ⟨q, 8, none⟩) hq x8
theorem heap_put5at (w : World) (q : Nat) (x4 x5 x6 x7 x8 : Value) (i : Nat) (h : i ≠ q) : (set5at w q x4 x5 x6 x7 x8).heap[i]? = w.heap[i]? := by
  unfold set5at
  rw [Below.heap_setCell _ _ _ _ (by simpa using h), Below.heap_setCell _ _ _ _ (by simpa using h), Below.heap_setCell _ _ _ _ (by simpa using h), Below.heap_setCell _ _ _ _ (by simpa using h), Below.heap_setCell _ _ _ _ (by simpa using h)]
theorem stays_put5at (hw : Whole w q t' l) (ht : t ≠ t') (x4 x5 x6 x7 x8 : Value) : Stays t w (set5at w q x4 x5 x6 x7 x8) := fun b cur hb => by
  refine heap_put5at w q x4 x5 x6 x7 x8 b ?_
  rintro rfl
  rw [show w.heap[b]? = _ from hw] at hb
  simp only [Option.some.injEq, Obj.cells.injEq] at hb
  exact ht hb.2.1.symm
theorem dfok_put5at {te tc : TypeId} {k : IntKind} {d : Df} {A : Option Addr} {c : Nat} (h : DfOk 0 te tc k w d A c) (hw : Whole w q t' l) (h1 : te ≠ t') (h2 : tc ≠ t') (x4 x5 x6 x7 x8 : Value) : DfOk 0 te tc k (set5at w q x4 x5 x6 x7 x8) d A c :=
  ⟨h.sps.keep (fun b => nob b) (stays_put5at hw h2 x4 x5 x6 x7 x8) (stays_put5at hw h1 x4 x5 x6 x7 x8), h.cap, h.none, Nat.zero_le _⟩
end
set_option maxHeartbeats 4000000 in
theorem frcut_any (C : Nat) (te t : TypeId) (f : Fm) (A : Option Addr) (n c : Nat) (w : World) (h : Sps C te t .i32 w A f.d.ss) (hC : C ≤ w.heap.size) (hn : f.d.ss.length = n) :
    Calls Tryz.prog 4 #[.agg #[.int .u64 f.num, .int .u64 f.base, .int .u64 f.echo, .int .u64 f.stamp, .int .i64 f.d.rows, .int .i64 f.d.cols, .int .i64 f.d.row, .int .i64 f.d.col, .slice A n c]] w (GaveFm 68 105 .i32 (cutFm f) w) := by
  obtain ⟨a1, a2, a3, a4, d⟩ := f
  simp only at h hn ⊢
  have hcut := dcut_any C te t d A n c
  unfold cutFm
  obtain ⟨D, hD⟩ : ∃ D, cutD d = D := ⟨_, rfl⟩
  simp only
  rw [hD] at hcut ⊢
  clear hD
  obtain ⟨W0, hW0⟩ : ∃ W0, (w.alloc (.cells #[.int .u64 a1, .int .u64 a2, .int .u64 a3, .int .u64 a4, .int .i64 d.rows, .int .i64 d.cols, .int .i64 d.row, .int .i64 d.col, .slice A n c] 27)).alloc (.cells #[.int .u64 0, .int .u64 0, .int .u64 0, .int .u64 0, .int .i64 0, .int .i64 0, .int .i64 0, .int .i64 0, .slice none 0 0] 27) = W0 := ⟨_, rfl⟩
  have HB0 : Hid (Below w.heap.size w W0) := by unfold Hid; rw [← hW0]; exact below2 w _ _
  have HX0 : Hid (Whole W0 w.heap.size 27 [.int .u64 a1, .int .u64 a2, .int .u64 a3, .int .u64 a4, .int .i64 d.rows, .int .i64 d.cols, .int .i64 d.row, .int .i64 d.col, .slice A n c]) := by unfold Hid; rw [← hW0]; exact (Whole.new w 27 [.int .u64 a1, .int .u64 a2, .int .u64 a3, .int .u64 a4, .int .i64 d.rows, .int .i64 d.cols, .int .i64 d.row, .int .i64 d.col, .slice A n c]).alloc _
  have HR0 : Hid (Whole W0 (w.heap.size + 1) 27 [.int .u64 0, .int .u64 0, .int .u64 0, .int .u64 0, .int .i64 0, .int .i64 0, .int .i64 0, .int .i64 0, .slice none 0 0]) := by unfold Hid; rw [← hW0]; exact whole_snd w _ 27 [.int .u64 0, .int .u64 0, .int .u64 0, .int .u64 0, .int .i64 0, .int .i64 0, .int .i64 0, .int .i64 0, .slice none 0 0]
  have KEY := hide (hcut W0 (h.below HB0.out hC) hn)
  have HW0 := hide hW0
  clear hW0 h hn hcut
  obtain ⟨f0, f1, f2, f3, f4, f5, f6, f7, f8, lf⟩ := cells9 HX0.out
  go_enter Tryz.func4, Tryz.ntmps4
  go_wp2_with fail
  rw [HW0.out]
  refine KEY.out.mono ?_
  rintro e k1 ⟨A2, c2, rfl, hd, hb⟩
  obtain ⟨n2, hn2⟩ : ∃ n2, D.ss.length = n2 := ⟨_, rfl⟩
  rw [hn2]
  have HN2 := hide hn2
  have HX1 := hide (HX0.out.later hb)
  have HR1 := hide (HR0.out.later hb)
  have HB1 := hide (HB0.out.trans (hb.mono HB0.out.size))
  have HD1 := hide hd
  clear hd hb hn2 f0 f1 f2 f3 f4 f5 f6 f7 f8 lf
  have HX2 := hide (put5at HX1.out (.int .i64 D.rows) (.int .i64 D.cols) (.int .i64 D.row) (.int .i64 D.col) (.slice A2 n2 c2))
  have HR2 := hide (HR1.out.same (heap_put5at k1 w.heap.size (.int .i64 D.rows) (.int .i64 D.cols) (.int .i64 D.row) (.int .i64 D.col) (.slice A2 n2 c2) (w.heap.size + 1) (by omega)))
  have HB2 := hide (below_put5at HB1.out (Nat.le_refl _) (.int .i64 D.rows) (.int .i64 D.cols) (.int .i64 D.row) (.int .i64 D.col) (.slice A2 n2 c2))
  have HD2 := hide (dfok_put5at HD1.out HX1.out (by decide) (by decide) (.int .i64 D.rows) (.int .i64 D.cols) (.int .i64 D.row) (.int .i64 D.col) (.slice A2 n2 c2))
  obtain ⟨W2, hW2⟩ : ∃ W2, set5at k1 w.heap.size (.int .i64 D.rows) (.int .i64 D.cols) (.int .i64 D.row) (.int .i64 D.col) (.slice A2 n2 c2) = W2 := ⟨_, rfl⟩
  rw [hW2] at HX2 HR2 HB2 HD2
  unfold set5at at hW2
  have HW2 := hide hW2
  clear hW2
  obtain ⟨f0, f1, f2, f3, f4, f5, f6, f7, f8, lf⟩ := cells9 HX1.out
  have fz := HX1.out.frozen
  go_upto_region 2 with fail
  rw [HW2.out]
  clear f0 f1 f2 f3 f4 f5 f6 f7 f8 lf fz
  obtain ⟨f0, f1, f2, f3, f4, f5, f6, f7, f8, lf⟩ := cells9 HX2.out
  obtain ⟨z0, z1, z2, z3, z4, z5, z6, z7, z8, lz⟩ := cells9 HR2.out
  have zz := HR2.out.frozen
  go_wp2
  refine ret9 Tryz.results4 (.inl rfl) rfl rfl (put9 HR2.out _ _ _ _ _ _ _ _ _) ?_
  exact ⟨A2, c2, by rw [HN2.out], dfok_put9 HD2.out HR2.out (by decide) (by decide) _ _ _ _ _ _ _ _ _, below_put9 HB2.out (Nat.le_succ _) _ _ _ _ _ _ _ _ _⟩
end Go.Proofs.YtcbdokocnjoilaaGreatDoor
