/-
  Contracts and plain mathematics of DLaw, DCut, GDo6, GOpen, DOpen.
-/
import Derived.Test.YtcbdokocnjoilaaGreatDoorH12
import Derived.Test.YtcbdokocnjoilaaGreatDoorH5
import Derived.Test.YtcbdokocnjoilaaGreatDoorH15
import Derived.Test.YtcbdokocnjoilaaGreatDoorH6
import Derived.Deep.DeepCutAuto
import Derived.Deep.CutRange
namespace Go.Proofs.YtcbdokocnjoilaaGreatDoor
set_option maxRecDepth 100000
set_option linter.unusedVariables false
set_option maxHeartbeats 8000000
section
open Go.ChangeShapes Go.WideShapes Go.ChangeAt Go.RowKit
/-- A difference that a call makes: the struct in block q, its spans in a row of the call's own. -/
structure Ud (T te t : TypeId) (k : IntKind) (C q B : Nat) (w wr : World) (a1 a2 a3 a4 : Int) (v : Value) (ss : List Sp) : Prop where
  out : Whole wr q T [.int .i64 a1, .int .i64 a2, .int .i64 a3, .int .i64 a4, v]
  own : OwnS C te t k B w wr v ss
  le : B ≤ q
section
variable {T te t : TypeId} {k : IntKind} {C q B : Nat} {w wr w1 w2 : World} {a1 a2 a3 a4 : Int} {v v' : Value} {ss ns : List Sp}
theorem Ud.later (h : Ud T te t k C q B w wr a1 a2 a3 a4 v ss) (hb : Below wr.heap.size wr w1) : Ud T te t k C q B w w1 a1 a2 a3 a4 v ss := ⟨h.out.later hb, h.own.later hb, h.le⟩
theorem Ud.drew (h : Ud T te t k C q B w wr a1 a2 a3 a4 v ss) : Ud T te t k C q B w wr.drew a1 a2 a3 a4 v ss := h.later ((Below.refl _ _).drewN 1)
theorem Ud.slice (h : Ud T te t k C q B w wr a1 a2 a3 a4 v ss) : ∃ A c, v = .slice A ss.length c := by obtain ⟨A, c, e, _⟩ := h.own.form; exact ⟨A, c, e⟩
/-- A span more, stored. -/
theorem Ud.grow (hw : Whole w2 q T [.int .i64 a1, .int .i64 a2, .int .i64 a3, .int .i64 a4, v]) (hl : B ≤ q) (ho : OwnS C te t k B w w1 v' ns) (hs : ∀ t', t' ≠ te → Stays t' w2 w1) (h1 : T ≠ te) (h2 : T ≠ t) : Ud T te t k C q B w (w1.setCell ⟨q, 4, none⟩ v') a1 a2 a3 a4 v' ns := by
  have hw1 : Whole w1 q T [.int .i64 a1, .int .i64 a2, .int .i64 a3, .int .i64 a4, v] := hw.same (hs T h1 q _ (by simpa [Whole] using hw))
  exact ⟨hw1.put 4 v', ho.put hw1 h2 h1 hl, hl⟩
theorem put5 {w : World} {q : Nat} {t : TypeId} {y0 y1 y2 y3 y4 : Value} (hw : Whole w q t [y0, y1, y2, y3, y4]) (x0 x1 x2 x3 x4 : Value) : Whole (((((w.setCell ⟨q, 0, none⟩ x0).setCell ⟨q, 1, none⟩ x1).setCell ⟨q, 2, none⟩ x2).setCell ⟨q, 3, none⟩ x3).setCell ⟨q, 4, none⟩ x4) q t [x0, x1, x2, x3, x4] := ((((hw.put 0 x0).put 1 x1).put 2 x2).put 3 x3).put 4 x4
theorem below_put5 {B : Nat} {W w : World} {q : Nat} (h : Below B W w) (hq : B ≤ q) (x0 x1 x2 x3 x4 : Value) : Below B W (((((w.setCell ⟨q, 0, none⟩ x0).setCell ⟨q, 1, none⟩ x1).setCell ⟨q, 2, none⟩ x2).setCell ⟨q, 3, none⟩ x3).setCell ⟨q, 4, none⟩ x4) :=
  ((((h.setCell (p := ⟨q, 0, none⟩) hq x0).setCell (p := ⟨q, 1, none⟩) hq x1).setCell (p := ⟨q, 2, none⟩) hq x2).setCell (p := ⟨q, 3, none⟩) hq x3).setCell (p := ⟨q, 4, none⟩) hq x4
theorem stays_put5 {t t' : TypeId} {w : World} {q : Nat} {l : List Value} (hw : Whole w q t' l) (ht : t ≠ t') (x0 x1 x2 x3 x4 : Value) : Stays t w (((((w.setCell ⟨q, 0, none⟩ x0).setCell ⟨q, 1, none⟩ x1).setCell ⟨q, 2, none⟩ x2).setCell ⟨q, 3, none⟩ x3).setCell ⟨q, 4, none⟩ x4) :=
  ((((Stays.put hw ht).trans (Stays.put (hw.put 0 x0) ht)).trans (Stays.put ((hw.put 0 x0).put 1 x1) ht)).trans (Stays.put (((hw.put 0 x0).put 1 x1).put 2 x2) ht)).trans (Stays.put ((((hw.put 0 x0).put 1 x1).put 2 x2).put 3 x3) ht)
/-- It lies in the result's block: what the call gives. -/
theorem Ud.done {w0 : World} {r : Nat} {l : List Value} {d : Df} (h : Ud T te t k w0.heap.size q B w wr a1 a2 a3 a4 v ss) (hb : Below w0.heap.size w0 w) (hB : w0.heap.size ≤ B) (hd : d = ⟨a1, a2, a3, a4, ss⟩) (hr : Whole wr r T l) (hrB : w0.heap.size ≤ r) (h1 : T ≠ te) (h2 : T ≠ t) (x0 x1 x2 x3 x4 : Value) :
    ∃ A c, v = .slice A d.ss.length c ∧ DfOk w0.heap.size te t k (((((wr.setCell ⟨r, 0, none⟩ x0).setCell ⟨r, 1, none⟩ x1).setCell ⟨r, 2, none⟩ x2).setCell ⟨r, 3, none⟩ x3).setCell ⟨r, 4, none⟩ x4) d A c ∧ Below w0.heap.size w0 (((((wr.setCell ⟨r, 0, none⟩ x0).setCell ⟨r, 1, none⟩ x1).setCell ⟨r, 2, none⟩ x2).setCell ⟨r, 3, none⟩ x3).setCell ⟨r, 4, none⟩ x4) := by
  subst hd
  obtain ⟨A, c, e, hs, h3, h4, -⟩ := h.own.form
  have hbw : Below w0.heap.size w0 wr := hb.trans (h.own.bel.mono hB)
  have hbb := below_put5 hbw hrB x0 x1 x2 x3 x4
  refine ⟨A, c, e, ⟨hs.keep ?_ (stays_put5 hr (Ne.symm h2) _ _ _ _ _) (stays_put5 hr (Ne.symm h1) _ _ _ _ _), h3, h4, hbb.size⟩, hbb⟩
  intro b hlt
  rw [hbb.block b hlt, hbw.block b hlt]
end
theorem retDf {R : Ending → World → Prop} {a : Act} {w : World} {fn : Func} {s : Nat} {q : Nat} {x0 x1 x2 x3 x4 : Value} (hr : fn.results = #[.cell s 25]) (h4 : a.tmps.getD s undef = .pointer (some ⟨q, 0, none⟩)) (hd : a.defers = [])
    (hw : Whole w q 25 [x0, x1, x2, x3, x4]) (hR : R (.returned (.agg #[x0, x1, x2, x3, x4])) w) : bodyPost Tryz.prog fn R .ret a w := by
  have c0 : w.cell? ⟨q, 0, none⟩ = some x0 := hw.cell 0
  have c1 : w.cell? ⟨q, 1, none⟩ = some x1 := hw.cell 1
  have c2 : w.cell? ⟨q, 2, none⟩ = some x2 := hw.cell 2
  have c3 : w.cell? ⟨q, 3, none⟩ = some x3 := hw.cell 3
  have c4 : w.cell? ⟨q, 4, none⟩ = some x4 := hw.cell 4
  clear hw
  rw [Array.getD_eq_getD_getElem?] at h4
  exact bodyPost_ret (v := .agg #[x0, x1, x2, x3, x4]) (by simp [results, hr, h4, c0, c1, c2, c3, c4, go_sem]) hd hR
theorem retD1 {R : Ending → World → Prop} {a : Act} {w : World} {fn : Func} {s : Nat} {q : Nat} {x0 x1 x2 x3 x4 : Value} (hr : fn.results = #[.cell s 32]) (h4 : a.tmps.getD s undef = .pointer (some ⟨q, 0, none⟩)) (hd : a.defers = [])
    (hw : Whole w q 32 [x0, x1, x2, x3, x4]) (hR : R (.returned (.agg #[x0, x1, x2, x3, x4])) w) : bodyPost Tryz.prog fn R .ret a w := by
  have c0 : w.cell? ⟨q, 0, none⟩ = some x0 := hw.cell 0
  have c1 : w.cell? ⟨q, 1, none⟩ = some x1 := hw.cell 1
  have c2 : w.cell? ⟨q, 2, none⟩ = some x2 := hw.cell 2
  have c3 : w.cell? ⟨q, 3, none⟩ = some x3 := hw.cell 3
  have c4 : w.cell? ⟨q, 4, none⟩ = some x4 := hw.cell 4
  clear hw
  rw [Array.getD_eq_getD_getElem?] at h4
  exact bodyPost_ret (v := .agg #[x0, x1, x2, x3, x4]) (by simp [results, hr, h4, c0, c1, c2, c3, c4, go_sem]) hd hR
theorem three_newW (w : World) (o o2 o3 : Obj) : Below w.heap.size w (((w.alloc o).alloc o2).alloc o3) := (((Below.refl _ _).alloc (Nat.le_refl _) _).alloc (by simp) _).alloc (by simp; omega) _
/-! ### small -/
theorem dsmall_any (n : Int) (w : World) : Calls Tryz.prog 29 #[.int .i64 n] w fun e w' => e = .returned (.int .i64 (smallI n)) ∧ w = w' := by
  by_cases h1 : 30 < n
  · by_cases h2 : n ≤ 512
    · have HS : Hid (smallI n = 30) := by unfold Hid smallI; rw [if_pos ⟨h1, h2⟩]
      go_enter Tryz.func29, Tryz.ntmps29
      go_wp2
      go_ret
      exact ⟨by rw [HS.out]; rfl, rfl⟩
    · have HS : Hid (smallI n = n) := by unfold Hid smallI; rw [if_neg (fun q => h2 q.2)]
      go_enter Tryz.func29, Tryz.ntmps29
      go_wp2
      go_ret
      exact ⟨by rw [HS.out]; rfl, rfl⟩
  · have HS : Hid (smallI n = n) := by unfold Hid smallI; rw [if_neg (fun q => h1 q.1)]
    go_enter Tryz.func29, Tryz.ntmps29
    go_wp2
    go_ret
    exact ⟨by rw [HS.out]; rfl, rfl⟩
/-! ### a difference as the document's -/
theorem ldof_any (C : Nat) (te t : TypeId) (d : Df) (A : Option Addr) (n c : Nat) (w : World) (h : Sps C te t .i32 w A d.ss) (hn : d.ss.length = n) (hl : n ≤ 1000000) (hbd : ∀ s ∈ d.ss, s.cs.length ≤ 1000000) (hlb : ∀ s ∈ d.ss, LB s.cs) :
    Calls Tryz.prog 18 #[.agg #[.int .i64 d.rows, .int .i64 d.cols, .int .i64 d.row, .int .i64 d.col, .slice A n c]] w (GaveDf 73 100 .i64 d w) := by
  obtain ⟨R, K, r0, l0, ss⟩ := d
  simp only at h hn hbd hlb ⊢
  obtain ⟨W0, hW0⟩ : ∃ W0, ((w.alloc (.cells #[.int .i64 R, .int .i64 K, .int .i64 r0, .int .i64 l0, .slice A n c] 25)).alloc (.cells #[.int .i64 0, .int .i64 0, .int .i64 0, .int .i64 0, .slice none 0 0] 32)).alloc (.cells #[.int .i64 R, .int .i64 K, .int .i64 r0, .int .i64 l0, .slice none 0 0] 32) = W0 := ⟨_, rfl⟩
  have HB0 : Hid (Below w.heap.size w W0) := by unfold Hid; rw [← hW0]; exact three_newW w _ _ _
  have HX0 : Hid (Whole W0 w.heap.size 25 [.int .i64 R, .int .i64 K, .int .i64 r0, .int .i64 l0, .slice A n c]) := by unfold Hid; rw [← hW0]; exact ((Whole.new w 25 [.int .i64 R, .int .i64 K, .int .i64 r0, .int .i64 l0, .slice A n c]).alloc _).alloc _
  have HR0 : Hid (Whole W0 (w.heap.size + 1) 32 [.int .i64 0, .int .i64 0, .int .i64 0, .int .i64 0, .slice none 0 0]) := by unfold Hid; rw [← hW0]; exact (whole_snd w _ 32 [.int .i64 0, .int .i64 0, .int .i64 0, .int .i64 0, .slice none 0 0]).alloc _
  have hO0 : Whole W0 (w.heap.size + 1 + 1) 32 [.int .i64 R, .int .i64 K, .int .i64 r0, .int .i64 l0, .slice none 0 0] := by rw [← hW0]; exact whole_thd w _ _ 32 [.int .i64 R, .int .i64 K, .int .i64 r0, .int .i64 l0, .slice none 0 0]
  have HU0 : Hid (Ud 32 73 100 .i64 w.heap.size (w.heap.size + 1 + 1) (w.heap.size + 1 + 1) W0 W0 R K r0 l0 (.slice none 0 0) (ss.take 0)) := ⟨hO0, OwnS.start (Nat.le_of_lt hO0.lt) (by omega), Nat.le_refl _⟩
  have HW0 := hide hW0
  have HA := hide h
  have HN := hide hn
  have HBD := hide hbd
  have HLBS := hide hlb
  clear hW0 h hn hbd hlb hO0
  obtain ⟨d0, d1, d2, d3, d4, ld⟩ := cells5 HX0.out
  go_enter Tryz.func18, Tryz.ntmps18
  go_wp2
  rw [HW0.out]
  clear d0 d1 d2 d3 d4 ld
  go_loopw [4] (fun i wr => ∃ (k : Nat) (v : Value), k ≤ n ∧ i = .int .i64 k ∧ Ud 32 73 100 .i64 w.heap.size (w.heap.size + 1 + 1) (w.heap.size + 1 + 1) W0 wr R K r0 l0 v (ss.take k)) (fun i _ => n - (intOf i).toNat)
  case atStart => exact ⟨0, _, Nat.zero_le _, rfl, HU0.out⟩
  case round =>
    obtain ⟨k, v, hk, rfl, hu⟩ := hrel
    have HU := hide hu
    have HXr := hide (HX0.out.below hu.own.bel (by omega))
    clear hu
    obtain ⟨d0, d1, d2, d3, d4, ld⟩ := cells5 HXr.out
    by_cases hlt : k < n
    · obtain ⟨b, off, A1, c1, rfl, lb0, x0, x1, x2, xi, -⟩ := HA.out.at (i := k) (by rw [HN.out]; exact hlt)
      have hbw : Below w.heap.size w wr := HB0.out.trans (HU.out.own.bel.mono (by omega))
      rw [← hbw.cell (p := ⟨b, off + k * 3, none⟩) lb0] at x0
      rw [← hbw.cell (p := ⟨b, off + k * 3 + 1, none⟩) lb0] at x1
      rw [← hbw.cell (p := ⟨b, off + k * 3 + 2, none⟩) lb0] at x2
      have lb : b < wr.heap.size := Nat.lt_of_lt_of_le lb0 hbw.size
      have hlu : (sAt ss k).cs.length ≤ 1000000 := HBD.out _ (mem_sAt ss k (by rw [HN.out]; exact hlt))
      have hlk : LB (sAt ss k).cs := HLBS.out _ (mem_sAt ss k (by rw [HN.out]; exact hlt))
      have hnx := take_nextS ss k (by rw [HN.out]; exact hlt)
      have hci := xi.cels.below hbw
      obtain ⟨x, hx⟩ : ∃ x, sAt ss k = x := ⟨_, rfl⟩
      rw [hx] at x0 x1 x2 hci hlu hlk hnx
      obtain ⟨r, l, cs⟩ := x
      simp only at x0 x1 x2 hci hlu hlk hnx
      obtain ⟨u, hnu⟩ : ∃ u, cs.length = u := ⟨_, rfl⟩
      rw [hnu] at x2 hlu
      have HCI := hide hci
      have HNU := hide hnu
      have HLB := hide hlk
      have HNX := hide hnx
      obtain ⟨A3, c3, rfl⟩ := HU.out.slice
      obtain ⟨kn, hkn⟩ : ∃ kn, (ss.take k).length = kn := ⟨_, rfl⟩
      rw [hkn] at HU
      have HKN := hide hkn
      clear hci hnu hlk hnx hx hkn xi
      obtain ⟨g0, g1, g2, g3, g4, lg⟩ := cells5 HU.out.out
      go_wp2
      refine rgL (fun w' => Below wr.heap.size wr w') 23 [(0, 4), (0, 10), (0, 16), (0, 0), (0, 2), (0, 8), (0, 14), (0, 1), (0, 3), (0, 5), (0, 6), (0, 7), (0, 9), (0, 11), (0, 12), (0, 13), (1, 15), (1, 17), (1, 18), (1, 19), (1, 20), (1, 21), (1, 22), (3, 23), (3, 24), (3, 25)] ((Below.refl _ _).drewN 1) ?_
      iterate 7 refine stL (h := ?_)
      refine stL (hy := fun w hS => by obtain ⟨f0, f1, f2, f3, f4, -⟩ := cells5 (HU.out.out.later hS); go_simp <;> with_reducible rfl) (h := ?_)
      refine stL (hy := fun w hS => by obtain ⟨f0, f1, f2, f3, f4, -⟩ := cells5 (HXr.out.later hS); go_simp <;> with_reducible rfl) (h := ?_)
      iterate 2 refine stL (h := ?_)
      refine stL (hy := fun w hS => by rw [← hS.cell (by simpa using lb)] at x0 x1 x2; go_simp <;> with_reducible rfl) (h := ?_)
      refine stL (hy := fun w hS => by obtain ⟨f0, f1, f2, f3, f4, -⟩ := cells5 (HXr.out.later hS); go_simp <;> with_reducible rfl) (h := ?_)
      iterate 2 refine stL (h := ?_)
      refine stL (hy := fun w hS => by rw [← hS.cell (by simpa using lb)] at x0 x1 x2; go_simp <;> with_reducible rfl) (h := ?_)
      obtain ⟨f0, f1, f2, f3, f4, lf⟩ := cells5 HXr.out.drew
      refine alL fun K hK => ?_
      go_wp2
      refine hK.out _ _ ((Below.refl _ _).drewN 1) ?_
      clear hK K
      refine alL fun K hK => ?_
      go_wp2
      refine hK.out _ _ ((Below.refl _ _).drewN 1) ?_
      clear hK K
      refine alL fun K hK => ?_
      go_wp2
      refine hK.out _ _ ((Below.refl _ _).drewN 1) ?_
      clear hK K
      refine alL fun K hK => ?_
      go_wp2
      refine hK.out _ _ ((Below.refl _ _).drewN 1) ?_
      clear hK K
      refine alL fun K hK => ?_
      go_wp2_with fail
      refine (lineof_any A1 u c1 cs _ HCI.out.drew HNU.out hlu HLB.out).mono ?_
      rintro e k1 ⟨v1, rfl, hown⟩
      obtain ⟨A2, c2, rfl, hct, hn2, hz2, -⟩ := hown.typed (C := w.heap.size)
      rw [HNU.out] at hn2 ⊢
      have hb1 : Below wr.heap.size wr k1 := ((Below.refl wr.heap.size wr).drewN 1).trans hown.bel
      have HB1 := hide hb1
      have HCT := hide hct
      clear hb1 hown hct
      go_wp2
      refine hK.out _ _ (HB1.out) ?_
      clear hK K
      refine alL fun K hK => ?_
      go_wp2
      refine hK.out _ _ (HB1.out) ?_
      clear hK K
      refine alL fun K hK => ?_
      go_wp2
      refine hK.out _ _ (HB1.out.alloc HB1.out.size _) ?_
      clear hK K
      refine laL fun K hK => ?_
      go_wp2_with (at_builtin; refine stopw ?_)
      unfold Hid
      refine wpList_pushS elemRSp r l A2 c2 cs u HNU.out HCT.out hn2 hz2 rfl _ _ rfl rfl rfl (HU.out.later HB1.out).own (by rw [List.length_take, HN.out]; omega) (by omega) (by decide) ?_
      intro v2 w2 hown2 hst2 hbl2
      obtain ⟨A5, n5, c5, rfl⟩ := hown2.slice
      have HUN := hide (Ud.grow ((HU.out.later HB1.out).out.alloc _) HU.out.le hown2 hst2 (by decide) (by decide))
      have HQ2 := hide (((HU.out.later HB1.out).out.alloc (.cells #[.int .i64 r, .int .i64 l, .slice A2 u c2] 73)).same (hst2 _ (by decide) _ _ ((HU.out.later HB1.out).out.alloc (.cells #[.int .i64 r, .int .i64 l, .slice A2 u c2] 73))))
      clear hown2 hst2 hbl2
      go_wp2
      refine hK.out _ _ ?_
      clear hK K
      refine laL fun K hK => ?_
      go_wp2
      refine hK.out _ _ ?_
      clear hK K
      have hfz := HQ2.out.frozen
      obtain ⟨g0, g1, g2, g3, g4, lg⟩ := cells5 HQ2.out
      refine laL fun K hK => ?_
      go_wp2
      refine hK.out _ _ ?_
      clear hK K
      refine chainL_nil ?_
      go_wp2
      go_roundw
      case rel => exact ⟨k + 1, _, hlt, by go_num, by rw [HNX.out]; exact HUN.out⟩
      case measure => simp [intOf]; omega
    · have hk2 : k = n := by omega
      obtain ⟨A3, c3, rfl⟩ := HU.out.slice
      have htk : ss.take k = ss := by rw [List.take_of_length_le (by rw [HN.out]; omega)]
      rw [htk] at HU
      rw [htk, HN.out] at *
      have HR := hide (HR0.out.below HU.out.own.bel (by omega))
      have HD := hide (HU.out.done (d := ⟨R, K, r0, l0, ss⟩) HB0.out (by omega) rfl HR.out (by omega) (by decide) (by decide) (.int .i64 R) (.int .i64 K) (.int .i64 r0) (.int .i64 l0) (.slice A3 n c3))
      have HP := hide (put5 HR.out (.int .i64 R) (.int .i64 K) (.int .i64 r0) (.int .i64 l0) (.slice A3 n c3))
      obtain ⟨g0, g1, g2, g3, g4, lg⟩ := cells5 HU.out.out
      obtain ⟨z0, z1, z2, z3, z4, lr⟩ := cells5 HR.out
      have fr := HR.out.frozen
      clear d0 d1 d2 d3 d4 ld
      obtain ⟨d0, d1, d2, d3, d4, ld⟩ := cells5 HXr.out
      go_wp2

      obtain ⟨A4, c4, e4, h5, h6⟩ := HD.out
      exact retD1 Tryz.results18 rfl rfl HP.out ⟨A4, c4, by rw [e4], h5, h6⟩
def cutS (s : Sp) : Sp := ⟨s.row, s.col, s.cs.take 30⟩
def cutTo (ss : List Sp) (k : Nat) : List Sp := (ss.take k).map cutS
def cutD (d : Df) : Df := ⟨smallI d.rows, smallI d.cols, d.row, d.col, cutTo d.ss 10⟩
/-- The call gave this difference, whose spans and cells lie in blocks of their own types, and left all that was there. -/
def GaveDf0 (te t : TypeId) (k : IntKind) (d : Df) (w : World) (e : Ending) (w' : World) : Prop := ∃ A c, e = .returned (.agg #[.int .i64 d.rows, .int .i64 d.cols, .int .i64 d.row, .int .i64 d.col, .slice A d.ss.length c]) ∧ DfOk 0 te t k w' d A c ∧ Below w.heap.size w w'
theorem Ud.done0 {T te t : TypeId} {k : IntKind} {q B : Nat} {w wr : World} {a1 a2 a3 a4 : Int} {v : Value} {ss : List Sp} {w0 : World} {r : Nat} {l : List Value} {d : Df} (h : Ud T te t k 0 q B w wr a1 a2 a3 a4 v ss) (hb : Below w0.heap.size w0 w) (hB : w0.heap.size ≤ B) (hd : d = ⟨a1, a2, a3, a4, ss⟩) (hr : Whole wr r T l) (hrB : w0.heap.size ≤ r) (h1 : T ≠ te) (h2 : T ≠ t) (x0 x1 x2 x3 x4 : Value) :
    ∃ A c, v = .slice A d.ss.length c ∧ DfOk 0 te t k (((((wr.setCell ⟨r, 0, none⟩ x0).setCell ⟨r, 1, none⟩ x1).setCell ⟨r, 2, none⟩ x2).setCell ⟨r, 3, none⟩ x3).setCell ⟨r, 4, none⟩ x4) d A c ∧ Below w0.heap.size w0 (((((wr.setCell ⟨r, 0, none⟩ x0).setCell ⟨r, 1, none⟩ x1).setCell ⟨r, 2, none⟩ x2).setCell ⟨r, 3, none⟩ x3).setCell ⟨r, 4, none⟩ x4) := by
  subst hd
  obtain ⟨A, c, e, hs, h3, h4, -⟩ := h.own.form
  have hbw : Below w0.heap.size w0 wr := hb.trans (h.own.bel.mono hB)
  exact ⟨A, c, e, ⟨hs.keep (fun b hb => absurd hb (Nat.not_lt_zero _)) (stays_put5 hr (Ne.symm h2) _ _ _ _ _) (stays_put5 hr (Ne.symm h1) _ _ _ _ _), h3, h4, Nat.zero_le _⟩, below_put5 hbw hrB x0 x1 x2 x3 x4⟩
theorem cutTo_next (ss : List Sp) (k : Nat) (h : k < ss.length) : cutTo ss (k + 1) = cutTo ss k ++ [cutS (sAt ss k)] := by unfold cutTo; rw [take_nextS ss k h, List.map_append]; rfl
theorem cutTo_end (ss : List Sp) (k : Nat) (h1 : k ≤ 10) (h : ss.length ≤ k ∨ 10 ≤ k) : cutTo ss k = cutTo ss 10 := by
  unfold cutTo
  rcases h with h | h
  · rw [List.take_of_length_le h, List.take_of_length_le (by omega)]
  · rw [show k = 10 by omega]
theorem cutTo_len (ss : List Sp) (k : Nat) : (cutTo ss k).length ≤ k := by unfold cutTo; rw [List.length_map, List.length_take]; omega
theorem cut_cells (d : Df) : ∀ s ∈ (cutD d).ss, s.cs.length ≤ 30 := by
  intro s hs
  obtain ⟨x, -, rfl⟩ := List.mem_map.1 hs
  show (x.cs.take 30).length ≤ 30
  rw [List.length_take]; omega
theorem cut_LB (d : Df) (h : ∀ s ∈ d.ss, LB s.cs) : ∀ s ∈ (cutD d).ss, LB s.cs := by
  intro s hs
  obtain ⟨x, hx, rfl⟩ := List.mem_map.1 hs
  intro i hi
  have hi2 : i < (x.cs.take 30).length := hi
  rw [List.length_take] at hi2
  show CelB (cAt (x.cs.take 30) i)
  rw [cAt_take _ _ _ (by omega)]
  exact h x (List.mem_of_mem_take hx) i (by omega)
theorem dcut_any (C : Nat) (te t : TypeId) (d : Df) (A : Option Addr) (n c : Nat) (w : World) (h : Sps C te t .i32 w A d.ss) (hn : d.ss.length = n) :
    Calls Tryz.prog 16 #[.agg #[.int .i64 d.rows, .int .i64 d.cols, .int .i64 d.row, .int .i64 d.col, .slice A n c]] w (GaveDf0 68 105 .i32 (cutD d) w) := by
  obtain ⟨R, S9, r0, l0, ss⟩ := d
  simp only at h hn ⊢
  obtain ⟨W0, hW0⟩ : ∃ W0, (w.alloc (.cells #[.int .i64 R, .int .i64 S9, .int .i64 r0, .int .i64 l0, .slice A n c] 25)).alloc (.cells #[.int .i64 0, .int .i64 0, .int .i64 0, .int .i64 0, .slice none 0 0] 25) = W0 := ⟨_, rfl⟩
  have HB0 : Hid (Below w.heap.size w W0) := by unfold Hid; rw [← hW0]; exact two_new w _ _ [.int .i64 R, .int .i64 S9, .int .i64 r0, .int .i64 l0, .slice A n c] [.int .i64 0, .int .i64 0, .int .i64 0, .int .i64 0, .slice none 0 0]
  have HX0 : Hid (Whole W0 w.heap.size 25 [.int .i64 R, .int .i64 S9, .int .i64 r0, .int .i64 l0, .slice A n c]) := by unfold Hid; rw [← hW0]; exact (Whole.new w 25 [.int .i64 R, .int .i64 S9, .int .i64 r0, .int .i64 l0, .slice A n c]).alloc _
  have HR0 : Hid (Whole W0 (w.heap.size + 1) 25 [.int .i64 0, .int .i64 0, .int .i64 0, .int .i64 0, .slice none 0 0]) := by unfold Hid; rw [← hW0]; exact whole_snd w _ 25 [.int .i64 0, .int .i64 0, .int .i64 0, .int .i64 0, .slice none 0 0]
  have HW0 := hide hW0
  have HA := hide h
  have HN := hide hn
  clear hW0 h hn
  obtain ⟨d0, d1, d2, d3, d4, ld⟩ := cells5 HX0.out
  go_enter Tryz.func16, Tryz.ntmps16
  go_upto_region 1 with fail
  rw [HW0.out]
  go_cut [3] from 6 to 16 (fun p wx => p = .pointer (some ⟨W0.heap.size, 0, none⟩) ∧ Hid (Whole wx W0.heap.size 25 [.int .i64 (smallI R), .int .i64 (smallI S9), .int .i64 r0, .int .i64 l0, .slice none 0 0] ∧ Below W0.heap.size W0 wx))
  case first =>
    refine rgT (fun w' => Below W0.heap.size W0 w') (.take 0 (.take 3 (.take 6 (.take 8 (.take 1 (.take 4 (.take 7 (.take 9 (.two 2 (.two 5 (.take 10 (.alone 11 (.alone 12 .done))) 11 (.alone 5 (.take 10 (.alone 12 .done)))) 11 (.alone 2 (.alone 5 (.take 10 (.alone 12 .done))))))))))))) ((Below.refl _ _).drewN 1) ?_
    iterate 4 refine stT (h := ?_)
    refine stT (hy := fun w hS => by obtain ⟨f0, f1, f2, f3, f4, -⟩ := cells5 (HX0.out.later hS); go_simp <;> with_reducible rfl) (h := ?_)
    refine stT (hy := fun w hS => by obtain ⟨f0, f1, f2, f3, f4, -⟩ := cells5 (HX0.out.later hS); go_simp <;> with_reducible rfl) (h := ?_)
    refine stT (hy := fun w hS => by obtain ⟨f0, f1, f2, f3, f4, -⟩ := cells5 (HX0.out.later hS); go_simp <;> with_reducible rfl) (h := ?_)
    refine stT (hy := fun w hS => by obtain ⟨f0, f1, f2, f3, f4, -⟩ := cells5 (HX0.out.later hS); go_simp <;> with_reducible rfl) (h := ?_)
    refine tree_two (by simp only [List.getElem?_toArray, List.getElem?_cons_zero, List.getElem?_cons_succ]; rfl) (by simp only [List.getElem?_toArray, List.getElem?_cons_zero, List.getElem?_cons_succ]; rfl) ?_ ?_
    · intro K hK
      go_wp2_with fail
      refine (dsmall_any R _).mono ?_
      rintro e k1 ⟨rfl, rfl⟩
      go_wp2
      refine hK.out _ _ ((Below.refl _ _).drewN 1) ?_
      clear hK K
      refine tree_two (by simp only [List.getElem?_toArray, List.getElem?_cons_zero, List.getElem?_cons_succ]; rfl) (by simp only [List.getElem?_toArray, List.getElem?_cons_zero, List.getElem?_cons_succ]; rfl) ?_ ?_
      · intro K hK
        go_wp2_with fail
        refine (dsmall_any S9 _).mono ?_
        rintro e k1 ⟨rfl, rfl⟩
        go_wp2
        refine hK.out _ _ ((Below.refl _ _).drewN 1) ?_
        clear hK K
        refine stT (h := ?_)
        refine alT fun K hK => ?_
        go_wp2
        refine hK.out _ _ (((Below.refl _ _).alloc (Nat.le_refl _) _).drewN 1) ?_
        clear hK K
        obtain ⟨V, hV⟩ : ∃ V, (W0.alloc (.cells #[.int .i64 0, .int .i64 0, .int .i64 0, .int .i64 0, .slice none 0 0] 25)).drew = V := ⟨_, rfl⟩
        have hV0 : Whole V W0.heap.size 25 [.int .i64 0, .int .i64 0, .int .i64 0, .int .i64 0, .slice none 0 0] := by rw [← hV]; exact (Whole.new W0 25 [.int .i64 0, .int .i64 0, .int .i64 0, .int .i64 0, .slice none 0 0]).drew
        have hVB : Below W0.heap.size W0 V := by rw [← hV]; exact ((Below.refl _ _).alloc (Nat.le_refl _) _).drewN 1
        have hVF := hV0.frozen
        obtain ⟨p0, p1, p2, p3, p4, lp⟩ := cells5 hV0
        rw [hV]
        refine alT fun K hK => ?_
        go_wp2
        refine hK.out _ _ (below_put5 hVB (Nat.le_refl _) _ _ _ _ _) ?_
        clear hK K
        have HF1 : Hid (Whole (((((V.setCell ⟨W0.heap.size, 0, none⟩ (.int .i64 (smallI R))).setCell ⟨W0.heap.size, 1, none⟩ (.int .i64 (smallI S9))).setCell ⟨W0.heap.size, 2, none⟩ (.int .i64 r0)).setCell ⟨W0.heap.size, 3, none⟩ (.int .i64 l0)).setCell ⟨W0.heap.size, 4, none⟩ (.slice none 0 0)) W0.heap.size 25 [.int .i64 (smallI R), .int .i64 (smallI S9), .int .i64 r0, .int .i64 l0, .slice none 0 0] ∧ Below W0.heap.size W0 (((((V.setCell ⟨W0.heap.size, 0, none⟩ (.int .i64 (smallI R))).setCell ⟨W0.heap.size, 1, none⟩ (.int .i64 (smallI S9))).setCell ⟨W0.heap.size, 2, none⟩ (.int .i64 r0)).setCell ⟨W0.heap.size, 3, none⟩ (.int .i64 l0)).setCell ⟨W0.heap.size, 4, none⟩ (.slice none 0 0))) := ⟨put5 hV0 _ _ _ _ _, below_put5 hVB (Nat.le_refl _) _ _ _ _ _⟩
        refine tree_done ?_
        go_wp2
        go_meet
        case rel => exact ⟨rfl, HF1⟩
      · intro K hK
        go_wp2
        refine hK.out _ _ (((Below.refl _ _).alloc (Nat.le_refl _) _).drewN 1) ?_
        clear hK K
        refine alT fun K hK => ?_
        go_wp2_with fail
        refine (dsmall_any S9 _).mono ?_
        rintro e k1 ⟨rfl, rfl⟩
        go_wp2
        refine hK.out _ _ (((Below.refl _ _).alloc (Nat.le_refl _) _).drewN 1) ?_
        clear hK K
        refine stT (h := ?_)
        obtain ⟨V, hV⟩ : ∃ V, (W0.alloc (.cells #[.int .i64 0, .int .i64 0, .int .i64 0, .int .i64 0, .slice none 0 0] 25)).drew = V := ⟨_, rfl⟩
        have hV0 : Whole V W0.heap.size 25 [.int .i64 0, .int .i64 0, .int .i64 0, .int .i64 0, .slice none 0 0] := by rw [← hV]; exact (Whole.new W0 25 [.int .i64 0, .int .i64 0, .int .i64 0, .int .i64 0, .slice none 0 0]).drew
        have hVB : Below W0.heap.size W0 V := by rw [← hV]; exact ((Below.refl _ _).alloc (Nat.le_refl _) _).drewN 1
        have hVF := hV0.frozen
        obtain ⟨p0, p1, p2, p3, p4, lp⟩ := cells5 hV0
        rw [hV]
        refine alT fun K hK => ?_
        go_wp2
        refine hK.out _ _ (below_put5 hVB (Nat.le_refl _) _ _ _ _ _) ?_
        clear hK K
        have HF1 : Hid (Whole (((((V.setCell ⟨W0.heap.size, 0, none⟩ (.int .i64 (smallI R))).setCell ⟨W0.heap.size, 1, none⟩ (.int .i64 (smallI S9))).setCell ⟨W0.heap.size, 2, none⟩ (.int .i64 r0)).setCell ⟨W0.heap.size, 3, none⟩ (.int .i64 l0)).setCell ⟨W0.heap.size, 4, none⟩ (.slice none 0 0)) W0.heap.size 25 [.int .i64 (smallI R), .int .i64 (smallI S9), .int .i64 r0, .int .i64 l0, .slice none 0 0] ∧ Below W0.heap.size W0 (((((V.setCell ⟨W0.heap.size, 0, none⟩ (.int .i64 (smallI R))).setCell ⟨W0.heap.size, 1, none⟩ (.int .i64 (smallI S9))).setCell ⟨W0.heap.size, 2, none⟩ (.int .i64 r0)).setCell ⟨W0.heap.size, 3, none⟩ (.int .i64 l0)).setCell ⟨W0.heap.size, 4, none⟩ (.slice none 0 0))) := ⟨put5 hV0 _ _ _ _ _, below_put5 hVB (Nat.le_refl _) _ _ _ _ _⟩
        refine tree_done ?_
        go_wp2
        go_meet
        case rel => exact ⟨rfl, HF1⟩
    · intro K hK
      go_wp2
      refine hK.out _ _ (((Below.refl _ _).alloc (Nat.le_refl _) _).drewN 1) ?_
      clear hK K
      refine alT fun K hK => ?_
      go_wp2_with fail
      refine (dsmall_any R _).mono ?_
      rintro e k1 ⟨rfl, rfl⟩
      go_wp2
      refine hK.out _ _ (((Below.refl _ _).alloc (Nat.le_refl _) _).drewN 1) ?_
      clear hK K
      refine alT fun K hK => ?_
      go_wp2_with fail
      refine (dsmall_any S9 _).mono ?_
      rintro e k1 ⟨rfl, rfl⟩
      go_wp2
      refine hK.out _ _ (((Below.refl _ _).alloc (Nat.le_refl _) _).drewN 1) ?_
      clear hK K
      refine stT (h := ?_)
      obtain ⟨V, hV⟩ : ∃ V, (W0.alloc (.cells #[.int .i64 0, .int .i64 0, .int .i64 0, .int .i64 0, .slice none 0 0] 25)).drew = V := ⟨_, rfl⟩
      have hV0 : Whole V W0.heap.size 25 [.int .i64 0, .int .i64 0, .int .i64 0, .int .i64 0, .slice none 0 0] := by rw [← hV]; exact (Whole.new W0 25 [.int .i64 0, .int .i64 0, .int .i64 0, .int .i64 0, .slice none 0 0]).drew
      have hVB : Below W0.heap.size W0 V := by rw [← hV]; exact ((Below.refl _ _).alloc (Nat.le_refl _) _).drewN 1
      have hVF := hV0.frozen
      obtain ⟨p0, p1, p2, p3, p4, lp⟩ := cells5 hV0
      rw [hV]
      refine alT fun K hK => ?_
      go_wp2
      refine hK.out _ _ (below_put5 hVB (Nat.le_refl _) _ _ _ _ _) ?_
      clear hK K
      have HF1 : Hid (Whole (((((V.setCell ⟨W0.heap.size, 0, none⟩ (.int .i64 (smallI R))).setCell ⟨W0.heap.size, 1, none⟩ (.int .i64 (smallI S9))).setCell ⟨W0.heap.size, 2, none⟩ (.int .i64 r0)).setCell ⟨W0.heap.size, 3, none⟩ (.int .i64 l0)).setCell ⟨W0.heap.size, 4, none⟩ (.slice none 0 0)) W0.heap.size 25 [.int .i64 (smallI R), .int .i64 (smallI S9), .int .i64 r0, .int .i64 l0, .slice none 0 0] ∧ Below W0.heap.size W0 (((((V.setCell ⟨W0.heap.size, 0, none⟩ (.int .i64 (smallI R))).setCell ⟨W0.heap.size, 1, none⟩ (.int .i64 (smallI S9))).setCell ⟨W0.heap.size, 2, none⟩ (.int .i64 r0)).setCell ⟨W0.heap.size, 3, none⟩ (.int .i64 l0)).setCell ⟨W0.heap.size, 4, none⟩ (.slice none 0 0))) := ⟨put5 hV0 _ _ _ _ _, below_put5 hVB (Nat.le_refl _) _ _ _ _ _⟩
      refine tree_done ?_
      go_wp2
      go_meet
      case rel => exact ⟨rfl, HF1⟩
  case rest =>
    obtain ⟨rfl, HH⟩ := hcut
    have HB1 := hide HH.out.2
    have HX1 := hide (HX0.out.later HB1.out)
    have HR1 := hide (HR0.out.later HB1.out)
    have HQ1 : Hid (w.heap.size + 1 < W0.heap.size) := HR0.out.lt
    have hS9 := HH.out.1
    have HBw : Hid (Below w.heap.size w wc) := HB0.out.trans (HB1.out.mono HB0.out.size)
    clear HH HB1 d0 d1 d2 d3 d4 ld
    obtain ⟨Q, hQ⟩ : ∃ Q, W0.heap.size = Q := ⟨_, rfl⟩
    rw [hQ] at hS9 HQ1 ⊢
    clear hQ
    have HU0 : Hid (Ud 25 68 105 .i32 0 Q Q wc wc (smallI R) (smallI S9) r0 l0 (.slice none 0 0) (cutTo ss 0)) := ⟨hS9, OwnS.start (Nat.le_of_lt hS9.lt) (Nat.zero_le _), Nat.le_refl _⟩
    clear hS9
    go_wp2
    go_loopw [4, 5] (fun i _ wr => ∃ (k : Nat) (v : Value), k ≤ n ∧ k ≤ 10 ∧ i = .int .i64 k ∧ Ud 25 68 105 .i32 0 Q Q wc wr (smallI R) (smallI S9) r0 l0 v (cutTo ss k)) (fun i _ _ => n - (intOf i).toNat)
    case atStart => exact ⟨0, _, Nat.zero_le _, Nat.zero_le _, rfl, HU0.out⟩
    case round =>
      obtain ⟨k, v, hk, hk10, rfl, hu⟩ := hrel
      have HU := hide hu
      have HXr := hide (HX1.out.below hu.own.bel (by have := HQ1.out; omega))
      clear hu
      obtain ⟨d0, d1, d2, d3, d4, ld⟩ := cells5 HXr.out
      by_cases hgo : k < n ∧ k < 10
      · obtain ⟨hlt, hlt2⟩ := hgo
        obtain ⟨b, off, A1, c1, rfl, lb0, x0, x1, x2, xi, hn1, hz1⟩ := HA.out.at (i := k) (by rw [HN.out]; exact hlt)
        have hbw : Below w.heap.size w wr := HBw.out.trans (HU.out.own.bel.mono (by have := HQ1.out; omega))
        rw [← hbw.cell (p := ⟨b, off + k * 3, none⟩) lb0] at x0
        rw [← hbw.cell (p := ⟨b, off + k * 3 + 1, none⟩) lb0] at x1
        rw [← hbw.cell (p := ⟨b, off + k * 3 + 2, none⟩) lb0] at x2
        have lb : b < wr.heap.size := Nat.lt_of_lt_of_le lb0 hbw.size
        have hnx := cutTo_next ss k (by rw [HN.out]; exact hlt)
        have hci := xi.cels.below hbw
        obtain ⟨x, hx⟩ : ∃ x, sAt ss k = x := ⟨_, rfl⟩
        rw [hx] at x0 x1 x2 hci hnx hn1
        obtain ⟨r, l, cs⟩ := x
        simp only at x0 x1 x2 hci hnx hn1
        obtain ⟨u, hnu⟩ : ∃ u, cs.length = u := ⟨_, rfl⟩
        rw [hnu] at x2 hn1
        have htk : cs.take (min u 30) = cs.take 30 := by
          rw [← hnu]
          by_cases q : cs.length ≤ 30
          · rw [Nat.min_eq_left q, List.take_of_length_le (Nat.le_refl _), List.take_of_length_le q]
          · rw [Nat.min_eq_right (by omega)]
        have hnx2 : cutTo ss (k + 1) = cutTo ss k ++ [⟨r, l, cs.take (min u 30)⟩] := by rw [hnx, htk]; rfl
        obtain ⟨ks, hks⟩ : ∃ ks, cs.take (min u 30) = ks := ⟨_, rfl⟩
        rw [hks] at hnx2
        obtain ⟨ku, hku⟩ : ∃ ku, ks.length = ku := ⟨_, rfl⟩
        have HKU := hide hku
        have HKS := hide hks
        obtain ⟨W1, hW1⟩ : ∃ W1, wr.alloc (.cells #[.int .i64 r, .int .i64 l, .slice A1 u c1] 68) = W1 := ⟨_, rfl⟩
        obtain ⟨P1, hP1⟩ : ∃ P1, wr.heap.size = P1 := ⟨_, rfl⟩
        have HZ1 : Hid (Whole W1 P1 68 [.int .i64 r, .int .i64 l, .slice A1 u c1]) := by unfold Hid; rw [← hW1, ← hP1]; exact Whole.new wr 68 [.int .i64 r, .int .i64 l, .slice A1 u c1]
        have HB1 : Hid (Below wr.heap.size wr W1) := by unfold Hid; rw [← hW1]; exact new1W _ _
        have HCI := hide (hci.below HB1.out)
        have HNU := hide hnu
        have HNX := hide hnx2
        obtain ⟨A3, c3, rfl⟩ := HU.out.slice
        obtain ⟨kn, hkn⟩ : ∃ kn, (cutTo ss k).length = kn := ⟨_, rfl⟩
        have hkn2 : kn ≤ 10 := by rw [← hkn]; exact Nat.le_trans (cutTo_len ss k) hk10
        have HKL : Hid ((cutTo ss k).length ≤ 1000000) := by unfold Hid; omega
        rw [hkn] at HU
        have HKN := hide hkn
        have HW1 := hide hW1
        have HP1 := hide hP1
        clear hci hnu hnx hnx2 hx hkn xi hks hku htk hW1 hP1 hbw lb0
        obtain ⟨z0, z1, z2, lz⟩ := cells3 HZ1.out
        go_wp2_with fail
        rw [HW1.out, HP1.out]
        refine (lcut_any A1 u c1 cs W1 HCI.out (by rw [HNU.out]; exact Nat.le_refl _) hz1 hn1).mono ?_
        rintro e k1 ⟨v1, rfl, hown⟩
        rw [HKS.out] at hown
        obtain ⟨A2, c2, rfl, hct, hn2, hz2, -⟩ := hown.typed (C := 0)
        rw [HKU.out] at hn2 ⊢
        have hZ2 := HZ1.out.later hown.bel
        have HZ3 : Hid (Whole (k1.setCell ⟨P1, 2, none⟩ (.slice A2 ku c2)) P1 68 [.int .i64 r, .int .i64 l, .slice A2 ku c2]) := hZ2.put 2 _
        have HB3 : Hid (Below wr.heap.size wr (k1.setCell ⟨P1, 2, none⟩ (.slice A2 ku c2))) := (HB1.out.trans (hown.bel.mono HB1.out.size)).setCell (p := ⟨P1, 2, none⟩) (by rw [HP1.out]; exact Nat.le_refl _) _
        have HCT : Hid (CelsT 0 105 .i32 (k1.setCell ⟨P1, 2, none⟩ (.slice A2 ku c2)) A2 ks) := hct.keep (fun b hb => absurd hb (Nat.not_lt_zero _)) (Stays.put hZ2 (by decide))
        have HU3 := hide (HU.out.later HB3.out)
        clear z0 z1 z2 lz
        obtain ⟨z0, z1, z2, lz⟩ := cells3 hZ2
        have zf := hZ2.frozen
        obtain ⟨W3, hW3⟩ : ∃ W3, k1.setCell ⟨P1, 2, none⟩ (.slice A2 ku c2) = W3 := ⟨_, rfl⟩
        rw [hW3] at HZ3 HCT HU3
        have HW3 := hide hW3
        clear hct hown hZ2 hW3 HB3 d0 d1 d2 d3 d4 ld x0 x1 x2
        go_upto_region 7 with fail
        rw [HW3.out]
        clear z0 z1 z2 lz zf
        obtain ⟨z0, z1, z2, lz⟩ := cells3 HZ3.out
        obtain ⟨g0, g1, g2, g3, g4, lg⟩ := cells5 HU3.out.out
        go_wp2_with (at_builtin; refine stopw ?_)
        unfold Hid
        refine wpList_pushS elemSp r l A2 c2 ks ku HKU.out HCT.out hn2 hz2 rfl _ _ rfl rfl rfl HU3.out.own HKL.out (by decide) (by decide) ?_
        intro v2 w2 hown2 hst2 hbl2
        obtain ⟨A5, n5, c5, rfl⟩ := hown2.slice
        have HUN := hide (Ud.grow (HU3.out.out.alloc _) HU3.out.le hown2 hst2 (by decide) (by decide))
        have HQ2 := hide ((HU3.out.out.alloc (.cells #[.int .i64 r, .int .i64 l, .slice A2 ku c2] 68)).same (hst2 _ (by decide) _ _ (HU3.out.out.alloc (.cells #[.int .i64 r, .int .i64 l, .slice A2 ku c2] 68))))
        clear hown2 hst2 hbl2 g0 g1 g2 g3 g4 lg z0 z1 z2 lz
        have hfz := HQ2.out.frozen
        obtain ⟨g0, g1, g2, g3, g4, lg⟩ := cells5 HQ2.out
        go_wp2
        go_roundw
        case rel => exact ⟨k + 1, _, hlt, hlt2, by go_num, by rw [HNX.out]; exact HUN.out⟩
        case measure => simp [intOf]; omega
      · have hend : cutTo ss k = cutTo ss 10 := cutTo_end ss k hk10 (by rw [HN.out]; omega)
        rw [hend] at HU
        obtain ⟨A3, c3, rfl⟩ := HU.out.slice
        have HR := hide (HR1.out.below HU.out.own.bel HQ1.out)
        obtain ⟨mm, hmm⟩ : ∃ mm, (cutTo ss 10).length = mm := ⟨_, rfl⟩
        have HD := hide (HU.out.done0 (d := cutD ⟨R, S9, r0, l0, ss⟩) HBw.out (by have := HQ1.out; omega) rfl HR.out (by omega) (by decide) (by decide) (.int .i64 (smallI R)) (.int .i64 (smallI S9)) (.int .i64 r0) (.int .i64 l0) (.slice A3 mm c3))
        rw [hmm] at HU HD
        have HP := hide (put5 HR.out (.int .i64 (smallI R)) (.int .i64 (smallI S9)) (.int .i64 r0) (.int .i64 l0) (.slice A3 mm c3))
        obtain ⟨g0, g1, g2, g3, g4, lg⟩ := cells5 HU.out.out
        obtain ⟨z0, z1, z2, z3, z4, lr⟩ := cells5 HR.out
        have fr := HR.out.frozen
        clear hmm
        by_cases hlt : k < n
        · have hk10' : k = 10 := by omega
          subst hk10'
          clear hgo
          go_wp2
          obtain ⟨A4, c4, e4, h5, h6⟩ := HD.out
          exact retDf Tryz.results16 rfl rfl HP.out ⟨A4, c4, by rw [e4]; rfl, h5, h6⟩
        · clear hgo
          go_wp2
          obtain ⟨A4, c4, e4, h5, h6⟩ := HD.out
          exact retDf Tryz.results16 rfl rfl HP.out ⟨A4, c4, by rw [e4]; rfl, h5, h6⟩
/-- An act. -/
structure Ac where
  k : Int
  r : Int
  c : Int
  t : Int
  xr : Int
  xm : Int
  xn : Int
  xd : Nat
  xf : Nat
  xg : Nat
  xb : Nat
  m : Int
  pf : Nat
  pg : Nat
  pb : Nat
  Al : Option Addr
  nl : Nat
  cl : Nat
  cs : List Cel
def actL (a : Ac) : List Value := [.int .i64 a.k, .int .i64 a.r, .int .i64 a.c, .int .i64 a.t, .int .i32 a.xr, .int .i32 a.xm, .int .i32 a.xn, .int .u8 (a.xd : Int), .int .u8 (a.xf : Int), .int .u8 (a.xg : Int), .int .u8 (a.xb : Int), .int .i32 a.m, .int .u8 (a.pf : Int), .int .u8 (a.pg : Int), .int .u8 (a.pb : Int), .slice a.Al a.nl a.cl]
/-- What is known of an act that came in. -/
structure AcOk (w : World) (a : Ac) : Prop where
  c : -9223372036854775808 ≤ a.c ∧ a.c < 9223372036854775808
  x : CelOk a.xr a.xm a.xn a.xd a.xf a.xg a.xb
  m : R32 a.m
  p : PenOk a.pf a.pg a.pb
  l : LineIn w a.Al a.nl a.cl a.cs
theorem LineIn.below {w w' : World} {A : Option Addr} {n c : Nat} {cs : List Cel} (h : LineIn w A n c cs) (hb : Below w.heap.size w w') : LineIn w' A n c cs := ⟨h.1.below hb, h.2⟩
theorem AcOk.below {w w' : World} {a : Ac} (h : AcOk w a) (hb : Below w.heap.size w w') : AcOk w' a := ⟨h.c, h.x, h.m, h.p, h.l.below hb⟩
/-- Acts that came in. -/
def Acts (w : World) (A : Option Addr) (n : Nat) : Prop := n = 0 ∨ ∃ (b off : Nat) (F : Nat → Ac), A = some ⟨b, off, none⟩ ∧ ∀ i, i < n → (∀ d v, (actL (F i))[d]? = some v → w.cell? ⟨b, off + i * 16 + d, none⟩ = some v) ∧ AcOk w (F i)
theorem Acts.below {w w' : World} {A : Option Addr} {n : Nat} (h : Acts w A n) (hb : Below w.heap.size w w') : Acts w' A n := by
  rcases h with h | ⟨b, off, F, ha, hc⟩
  · exact .inl h
  · refine .inr ⟨b, off, F, ha, fun i hi => ⟨fun d v hv => ?_, (hc i hi).2.below hb⟩⟩
    have := (hc i hi).1 d v hv
    rw [hb.cell (block_lt_of_cell this), this]
theorem Acts.at {w : World} {A : Option Addr} {n i : Nat} (h : Acts w A n) (hi : i < n) : ∃ (b off : Nat) (a : Ac), A = some ⟨b, off, none⟩ ∧ b < w.heap.size ∧ AcOk w a ∧
    (w.cell? ⟨b, off + i * 16, none⟩ = some (.int .i64 a.k) ∧ w.cell? ⟨b, off + i * 16 + 1, none⟩ = some (.int .i64 a.r) ∧ w.cell? ⟨b, off + i * 16 + 2, none⟩ = some (.int .i64 a.c) ∧ w.cell? ⟨b, off + i * 16 + 3, none⟩ = some (.int .i64 a.t) ∧
     w.cell? ⟨b, off + i * 16 + 4, none⟩ = some (.int .i32 a.xr) ∧ w.cell? ⟨b, off + i * 16 + 5, none⟩ = some (.int .i32 a.xm) ∧ w.cell? ⟨b, off + i * 16 + 6, none⟩ = some (.int .i32 a.xn) ∧ w.cell? ⟨b, off + i * 16 + 7, none⟩ = some (.int .u8 (a.xd : Int)) ∧
     w.cell? ⟨b, off + i * 16 + 8, none⟩ = some (.int .u8 (a.xf : Int)) ∧ w.cell? ⟨b, off + i * 16 + 9, none⟩ = some (.int .u8 (a.xg : Int)) ∧ w.cell? ⟨b, off + i * 16 + 10, none⟩ = some (.int .u8 (a.xb : Int)) ∧ w.cell? ⟨b, off + i * 16 + 11, none⟩ = some (.int .i32 a.m) ∧
     w.cell? ⟨b, off + i * 16 + 12, none⟩ = some (.int .u8 (a.pf : Int)) ∧ w.cell? ⟨b, off + i * 16 + 13, none⟩ = some (.int .u8 (a.pg : Int)) ∧ w.cell? ⟨b, off + i * 16 + 14, none⟩ = some (.int .u8 (a.pb : Int)) ∧ w.cell? ⟨b, off + i * 16 + 15, none⟩ = some (.slice a.Al a.nl a.cl)) := by
  rcases h with h | ⟨b, off, F, ha, hc⟩
  · omega
  · obtain ⟨h1, h2⟩ := hc i hi
    exact ⟨b, off, F i, ha, block_lt_of_cell (h1 0 _ rfl), h2, h1 0 _ rfl, h1 1 _ rfl, h1 2 _ rfl, h1 3 _ rfl, h1 4 _ rfl, h1 5 _ rfl, h1 6 _ rfl, h1 7 _ rfl, h1 8 _ rfl, h1 9 _ rfl, h1 10 _ rfl, h1 11 _ rfl, h1 12 _ rfl, h1 13 _ rfl, h1 14 _ rfl, h1 15 _ rfl⟩
end
section
open Go.ChangeShapes Go.WideShapes Go.ChangeAt Go.RowKit Go.Joins
theorem sizeLine : Tryz.prog.cellsOf 66 = 1 := by kernel_rfl
section
variable {H : Type} {enc : TypeId × Value → H} {w : World} {base : Nat} {spare : Nat → Bool} {held : Bool}
theorem cells_line {fuel : Nat} {c : Value} {x : DataW H × List MemPlace} (h : DataW.trod enc Tryz.prog w base spare held fuel 66 [c] = some x) : ∃ a len cap cs, c = .slice a len cap ∧ LineIn w a len cap cs := by
  have h0 := h
  rcases Deep.open_slice Tryz.underlying66 h with ⟨hcs, _⟩ | ⟨ad, l, cp, m, n, D, Pl, hcs, _⟩
  · obtain rfl : c = .slice none 0 0 := by simpa using hcs
    obtain ⟨cs, hI⟩ := open_line (x := x.1) (p := x.2) ⟨fuel, h0⟩
    exact ⟨none, 0, 0, cs, rfl, hI⟩
  · obtain rfl : c = .slice (some ad) l cp := by simpa using hcs
    obtain ⟨cs, hI⟩ := open_line (x := x.1) (p := x.2) ⟨fuel, h0⟩
    exact ⟨some ad, l, cp, cs, rfl, hI⟩
end
/-- What is known of a difference that came in. -/
structure DfIn (w : World) (d : Df) (A : Option Addr) (c : Nat) : Prop where
  ok : DfOk w.heap.size 68 105 .i32 w d A c
  lb : ∀ s ∈ d.ss, LB s.cs
theorem structSpan : ∃ f0 f1 f2 : Field, Tryz.prog.underlying 68 = some (.struct #[f0, f1, f2]) ∧ (f0.type = 3 ∧ f1.type = 3 ∧ f2.type = 66) ∧ (f0.offset = 0 ∧ f1.offset = 1 ∧ f2.offset = 2) :=
  ⟨_, _, _, Tryz.underlying68, ⟨rfl, rfl, rfl⟩, ⟨rfl, rfl, rfl⟩⟩
theorem structDiff : ∃ f0 f1 f2 f3 f4 : Field, Tryz.prog.underlying 25 = some (.struct #[f0, f1, f2, f3, f4]) ∧ (f0.type = 3 ∧ f1.type = 3 ∧ f2.type = 3 ∧ f3.type = 3 ∧ f4.type = 23) ∧ (f0.offset = 0 ∧ f1.offset = 1 ∧ f2.offset = 2 ∧ f3.offset = 3 ∧ f4.offset = 4) :=
  ⟨_, _, _, _, _, Tryz.underlying25, ⟨rfl, rfl, rfl, rfl, rfl⟩, ⟨rfl, rfl, rfl, rfl, rfl⟩⟩
theorem sizeSpan11 : Tryz.prog.cellsOf 68 = 3 := by kernel_rfl
theorem sizeSpans11 : Tryz.prog.cellsOf 23 = 1 := by kernel_rfl
theorem sizeDiff : Tryz.prog.cellsOf 25 = 5 := by kernel_rfl
theorem list3 {α : Type} {cs : List α} (h : cs.length = 3) : ∃ c0 c1 c2, cs = [c0, c1, c2] := by
  match cs, h with
  | [c0, c1, c2], _ => exact ⟨c0, c1, c2, rfl⟩
theorem list5 {α : Type} {cs : List α} (h : cs.length = 5) : ∃ c0 c1 c2 c3 c4, cs = [c0, c1, c2, c3, c4] := by
  match cs, h with
  | [c0, c1, c2, c3, c4], _ => exact ⟨c0, c1, c2, c3, c4, rfl⟩
theorem LB_cut {cs : List Cel} (h : LB cs) (n : Nat) : LB (cs.take n) := by
  intro i hi
  rw [List.length_take] at hi
  have : cAt (cs.take n) i = cAt cs i := by unfold cAt; simp [show i < n by omega]
  rw [this]
  exact h i (by omega)
/-- Spans that are known one by one. -/
theorem sps_of_each {C : Nat} {te t : TypeId} {k : IntKind} {w : World} {b off n : Nat} {F : Nat → Sa} (hb : b < C) (h : ∀ i, i < n → SaOk C t k w (F i) ∧ ∀ d v, (saL (F i))[d]? = some v → w.cell? ⟨b, off + (i * 3 + d), none⟩ = some v) : Sps C te t k w (some ⟨b, off, none⟩) ((List.range n).map fun i => (F i).s) := by
  refine ⟨(List.range n).map F, by rw [List.map_map]; rfl, fun x hx => ?_, .inr ⟨b, off, rfl, .inl hb, fun j v hj => ?_⟩⟩
  · obtain ⟨i, hi, rfl⟩ := List.mem_map.1 hx
    exact (h i (List.mem_range.1 hi)).1
  · have hl : j < n * 3 := by have := (List.getElem?_eq_some_iff.1 hj).1; rwa [flatS_len, List.length_map, List.length_range] at this
    have e : j = j / 3 * 3 + j % 3 := by omega
    have hq : j / 3 < n := by omega
    have hd : j % 3 < 3 := by omega
    rw [e, flatS_get _ _ _ hd, List.getElem?_map, List.getElem?_range hq] at hj
    have := (h (j / 3) hq).2 (j % 3) v hj
    rwa [← e] at this
section
variable {H : Type} {enc : TypeId × Value → H} {w : World} {base : Nat} {spare : Nat → Bool} {held : Bool}
theorem cells_span {fuel : Nat} {cs : List Value} {x : DataW H × List MemPlace} (hlen : cs.length = 3) (h : DataW.trod enc Tryz.prog w base spare held fuel 68 cs = some x) : ∃ a : Sa, cs = saL a ∧ SaOk w.heap.size 105 .i32 w a ∧ LB a.s.cs := by
  obtain ⟨c0, c1, c2, rfl⟩ := list3 hlen
  obtain ⟨f0, f1, f2, hu, ⟨e0, e1, e2⟩, o0, o1, o2⟩ := structSpan
  obtain ⟨xs, n, _, rfl, hl, hxl, hf⟩ := DataW.trod_struct hu h
  match xs, hxl with
  | [y0, y1, y2], _ =>
    have g0 := hf 0 f0 rfl
    have g1 := hf 1 f1 rfl
    have g2 := hf 2 f2 rfl
    rw [e0, o0, cellsI64] at g0
    rw [e1, o1, cellsI64] at g1
    rw [e2, o2, sizeLine] at g2
    simp only [List.drop_zero, List.drop_succ_cons, List.take_succ_cons, List.take_zero, List.getElem?_cons_zero, List.getElem?_cons_succ] at g0 g1 g2
    obtain ⟨n0, k0, r0, w0⟩ := DataW.trod_int Tryz.underlying3 g0
    obtain ⟨n1, k1, r1, w1⟩ := DataW.trod_int Tryz.underlying3 g1
    obtain ⟨Al, nl, cl, zs, k2, w2⟩ := cells_line g2
    simp only [List.cons.injEq, and_true] at k0 k1
    subst k0 k1 k2
    obtain ⟨h1, h2, h3, h4, h5⟩ := w2
    have hz : (zs.take nl).length = nl := by rw [List.length_take]; omega
    exact ⟨⟨⟨n0, n1, zs.take nl⟩, Al, cl⟩, by unfold saL; simp only [hz], ⟨(CelsT.of_cels h1).take nl, by simp only [hz]; exact h3, h4⟩, LB_cut h5 nl⟩
theorem cells_spans {fuel : Nat} {c : Value} {x : DataW H × List MemPlace} (h : DataW.trod enc Tryz.prog w base spare held fuel 23 [c] = some x) : ∃ a cap ss, c = .slice a (ss : List Sp).length cap ∧ Sps w.heap.size 68 105 .i32 w a ss ∧ ss.length ≤ cap ∧ (a = none → cap = 0) ∧ ∀ s ∈ ss, LB s.cs := by
  rcases Deep.open_slice Tryz.underlying23 h with ⟨hcs, _⟩ | ⟨ad, len, cp, m, n, D, Pl, hcs, hb, hl, hm, hmm, _, hel⟩
  · obtain rfl : c = .slice none 0 0 := by simpa using hcs
    exact ⟨none, 0, [], rfl, .nil, Nat.le_refl _, fun _ => rfl, by simp⟩
  · obtain rfl : c = .slice (some ad) len cp := by simpa using hcs
    have hlm : len ≤ m := by rw [hmm]; split <;> omega
    rw [sizeSpan11] at hel
    have each : ∀ i, i < len → ∃ a : Sa, (SaOk w.heap.size 105 .i32 w a ∧ LB a.s.cs) ∧ ∀ d v, (saL a)[d]? = some v → w.cell? ((ad.add (i * 3)).add d) = some v := by
      intro i hi
      obtain ⟨cs', h1, h2⟩ := hel i (by omega)
      obtain ⟨-, h3, h4⟩ := World.cells?_some h1
      obtain ⟨a, e, ok⟩ := cells_span h3 h2
      refine ⟨a, ok, fun d v hv => ?_⟩
      have hd : d < 3 := (List.getElem?_eq_some_iff.1 hv).1
      rw [h4 d hd, e]
      exact hv
    by_cases h0 : len = 0
    · subst h0
      exact ⟨some ad, cp, [], rfl, .nil, hl, (fun h => by cases h), by simp⟩
    · obtain ⟨c0, _, hc0⟩ := each 0 (by omega)
      have hs : ad.spot = none := by
        have := World.cell?_spot (hc0 0 _ rfl)
        simpa [Addr.add] using this
      obtain ⟨b, off, spot⟩ := ad
      simp only at hs
      subst hs
      have hadd : ∀ i j, ((⟨b, off, none⟩ : Addr).add i).add j = ⟨b, off + (i + j), none⟩ := by
        intro i j
        have e1 : ∀ (o q : Nat), (⟨b, o, none⟩ : Addr).add q = ⟨b, o + q, none⟩ := fun o q => by unfold Addr.add; split <;> simp_all
        rw [e1, e1, Nat.add_assoc]
      have each2 : ∀ i : Nat, ∃ a : Sa, i < len → (SaOk w.heap.size 105 .i32 w a ∧ LB a.s.cs) ∧ ∀ d v, (saL a)[d]? = some v → w.cell? ⟨b, off + (i * 3 + d), none⟩ = some v := by
        intro i
        by_cases hi : i < len
        · obtain ⟨a, h1, h2⟩ := each i hi
          exact ⟨a, fun _ => ⟨h1, fun d v hv => by rw [← hadd]; exact h2 d v hv⟩⟩
        · exact ⟨c0, fun q => absurd q hi⟩
      let F : Nat → Sa := fun i => Classical.choose (each2 i)
      have hF : ∀ i, i < len → (SaOk w.heap.size 105 .i32 w (F i) ∧ LB (F i).s.cs) ∧ ∀ d v, (saL (F i))[d]? = some v → w.cell? ⟨b, off + (i * 3 + d), none⟩ = some v := fun i hi => Classical.choose_spec (each2 i) hi
      have hbl : b < w.heap.size := block_lt_of_cell ((hF 0 (by omega)).2 0 _ rfl)
      have hlen : ((List.range len).map fun i => (F i).s).length = len := by simp
      refine ⟨some ⟨b, off, none⟩, cp, (List.range len).map fun i => (F i).s, by rw [hlen], sps_of_each hbl fun i hi => ⟨(hF i hi).1.1, (hF i hi).2⟩, by rw [hlen]; exact hl, (fun h => by cases h), fun s hs => ?_⟩
      obtain ⟨i, hi, rfl⟩ := List.mem_map.1 hs
      exact (hF i (List.mem_range.1 hi)).1.2
theorem cells_diff {fuel : Nat} {cs : List Value} {x : DataW H × List MemPlace} (hlen : cs.length = 5) (h : DataW.trod enc Tryz.prog w base spare held fuel 25 cs = some x) : ∃ (d : Df) (A : Option Addr) (c : Nat), cs = [.int .i64 d.rows, .int .i64 d.cols, .int .i64 d.row, .int .i64 d.col, .slice A d.ss.length c] ∧ DfIn w d A c := by
  obtain ⟨c0, c1, c2, c3, c4, rfl⟩ := list5 hlen
  obtain ⟨f0, f1, f2, f3, f4, hu, ⟨e0, e1, e2, e3, e4⟩, o0, o1, o2, o3, o4⟩ := structDiff
  obtain ⟨xs, n, _, rfl, hl, hxl, hf⟩ := DataW.trod_struct hu h
  match xs, hxl with
  | [y0, y1, y2, y3, y4], _ =>
    have g0 := hf 0 f0 rfl
    have g1 := hf 1 f1 rfl
    have g2 := hf 2 f2 rfl
    have g3 := hf 3 f3 rfl
    have g4 := hf 4 f4 rfl
    rw [e0, o0, cellsI64] at g0
    rw [e1, o1, cellsI64] at g1
    rw [e2, o2, cellsI64] at g2
    rw [e3, o3, cellsI64] at g3
    rw [e4, o4, sizeSpans11] at g4
    simp only [List.drop_zero, List.drop_succ_cons, List.take_succ_cons, List.take_zero, List.getElem?_cons_zero, List.getElem?_cons_succ] at g0 g1 g2 g3 g4
    obtain ⟨n0, k0, r0, w0⟩ := DataW.trod_int Tryz.underlying3 g0
    obtain ⟨n1, k1, r1, w1⟩ := DataW.trod_int Tryz.underlying3 g1
    obtain ⟨n2, k2, r2, w2⟩ := DataW.trod_int Tryz.underlying3 g2
    obtain ⟨n3, k3, r3, w3⟩ := DataW.trod_int Tryz.underlying3 g3
    obtain ⟨A, c, ss, k4, h1, h2, h3, h4⟩ := cells_spans g4
    simp only [List.cons.injEq, and_true] at k0 k1 k2 k3
    subst k0 k1 k2 k3 k4
    exact ⟨⟨n0, n1, n2, n3, ss⟩, A, c, rfl, ⟨h1, h2, h3, Nat.le_refl _⟩, h4⟩
theorem open_diff {r : Reach} {b0 : Nat} {v : Value} {x : DataW H} {p : List MemPlace} (hv : Value.okWide Tryz.prog w r b0 25 v) (h : DataW.Trod enc Tryz.prog w base spare held 25 v x p) :
    ∃ (d : Df) (A : Option Addr) (c : Nat), v = .agg #[.int .i64 d.rows, .int .i64 d.cols, .int .i64 d.row, .int .i64 d.col, .slice A d.ss.length c] ∧ DfIn w d A c := by
  obtain ⟨f0, f1, f2, f3, f4, hu, -⟩ := structDiff
  obtain ⟨cs, rfl, hsz⟩ := okWide_struct hu hv
  obtain ⟨fuel, hf⟩ := h
  obtain ⟨d, A, c, e, ok⟩ := cells_diff (by rw [Value.cells, Array.length_toList, hsz, sizeDiff]) hf
  refine ⟨d, A, c, ?_, ok⟩
  have : cs = [.int .i64 d.rows, .int .i64 d.cols, .int .i64 d.row, .int .i64 d.col, .slice A d.ss.length c].toArray := by rw [← e]; simp [Value.cells]
  rw [this]
end
end
end Go.Proofs.YtcbdokocnjoilaaGreatDoor
