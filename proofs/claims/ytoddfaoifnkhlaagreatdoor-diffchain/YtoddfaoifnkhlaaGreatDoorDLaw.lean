/-
  A difference under way: a struct in a block, its row of spans; contracts: the law's own words (small, Of, Cut).
-/
import Derived.Test.YtoddfaoifnkhlaaGreatDoorDMem
import Derived.Test.YtoddfaoifnkhlaaGreatDoorB5
import Derived.Test.YtoddfaoifnkhlaaGreatDoorB12
import Derived.Test.YtoddfaoifnkhlaaGreatDoorB2
namespace Go.Proofs.YtoddfaoifnkhlaaGreatDoor
set_option maxRecDepth 100000
open Go.ChangeShapes Go.WideShapes Go.ChangeAt Go.RowKit
set_option linter.unusedVariables false

/-- A difference that a call makes: the struct in block q, its spans in a row of the call's own. -/
structure Ud (T te t : TypeId) (k : IntKind) (C q B : Nat) (w wr : World) (a1 a2 a3 a4 : Int) (v : Value) (ss : List Sp) : Prop where
  out : Whole wr q T [.int .i64 a1, .int .i64 a2, .int .i64 a3, .int .i64 a4, v]
  own : OwnS C te t k B w wr v ss
  le : B ≤ q
section
variable {T te t : TypeId} {k : IntKind} {C q B : Nat} {w wr w1 w2 : World} {a1 a2 a3 a4 : Int} {v v' : Value} {ss ns : List Sp}
theorem Ud.later (h : Ud T te t k C q B w wr a1 a2 a3 a4 v ss) (hb : Below wr.heap.size wr w1) : Ud T te t k C q B w w1 a1 a2 a3 a4 v ss := ⟨h.out.later hb, h.own.later hb, h.le⟩
theorem Ud.drew (h : Ud T te t k C q B w wr a1 a2 a3 a4 v ss) : Ud T te t k C q B w wr.drew a1 a2 a3 a4 v ss := h.later ((Below.refl _ _).drewN 1)
theorem Ud.slice (h : Ud T te t k C q B w wr a1 a2 a3 a4 v ss) : ∃ A c, v = .slice A ss.length c := by obtain ⟨A, c, e, _⟩ := h.own.form; exact ⟨A, c, e⟩
/-- A span more, stored. -/
theorem Ud.grow (hw : Whole w2 q T [.int .i64 a1, .int .i64 a2, .int .i64 a3, .int .i64 a4, v]) (hl : B ≤ q) (ho : OwnS C te t k B w w1 v' ns) (hs : ∀ t', t' ≠ te → Stays t' w2 w1) (h1 : T ≠ te) (h2 : T ≠ t) : Ud T te t k C q B w (w1.setCell ⟨q, 4, none⟩ v') a1 a2 a3 a4 v' ns := by
  have hw1 : Whole w1 q T [.int .i64 a1, .int .i64 a2, .int .i64 a3, .int .i64 a4, v] := hw.same (hs T h1 q _ (by simpa [Whole] using hw))
  exact ⟨hw1.put 4 v', ho.put hw1 h2 h1 hl, hl⟩
theorem put5 {w : World} {q : Nat} {t : TypeId} {y0 y1 y2 y3 y4 : Value} (hw : Whole w q t [y0, y1, y2, y3, y4]) (x0 x1 x2 x3 x4 : Value) : Whole (((((w.setCell ⟨q, 0, none⟩ x0).setCell ⟨q, 1, none⟩ x1).setCell ⟨q, 2, none⟩ x2).setCell ⟨q, 3, none⟩ x3).setCell ⟨q, 4, none⟩ x4) q t [x0, x1, x2, x3, x4] := ((((hw.put 0 x0).put 1 x1).put 2 x2).put 3 x3).put 4 x4
theorem below_put5 {B : Nat} {W w : World} {q : Nat} (h : Below B W w) (hq : B ≤ q) (x0 x1 x2 x3 x4 : Value) : Below B W (((((w.setCell ⟨q, 0, none⟩ x0).setCell ⟨q, 1, none⟩ x1).setCell ⟨q, 2, none⟩ x2).setCell ⟨q, 3, none⟩ x3).setCell ⟨q, 4, none⟩ x4) :=
  ((((h.setCell (p := ⟨q, 0, none⟩) hq x0).setCell (p := ⟨q, 1, none⟩) hq x1).setCell (p := ⟨q, 2, none⟩) hq x2).setCell (p := ⟨q, 3, none⟩) hq x3).setCell (p := ⟨q, 4, none⟩) hq x4
theorem stays_put5 {t t' : TypeId} {w : World} {q : Nat} {l : List Value} (hw : Whole w q t' l) (ht : t ≠ t') (x0 x1 x2 x3 x4 : Value) : Stays t w (((((w.setCell ⟨q, 0, none⟩ x0).setCell ⟨q, 1, none⟩ x1).setCell ⟨q, 2, none⟩ x2).setCell ⟨q, 3, none⟩ x3).setCell ⟨q, 4, none⟩ x4) :=
  ((((Stays.put hw ht).trans (Stays.put (hw.put 0 x0) ht)).trans (Stays.put ((hw.put 0 x0).put 1 x1) ht)).trans (Stays.put (((hw.put 0 x0).put 1 x1).put 2 x2) ht)).trans (Stays.put ((((hw.put 0 x0).put 1 x1).put 2 x2).put 3 x3) ht)
/-- It lies in the result's block: what the call gives. -/
theorem Ud.done {w0 : World} {r : Nat} {l : List Value} {d : Df} (h : Ud T te t k w0.heap.size q B w wr a1 a2 a3 a4 v ss) (hb : Below w0.heap.size w0 w) (hB : w0.heap.size ≤ B) (hd : d = ⟨a1, a2, a3, a4, ss⟩) (hr : Whole wr r T l) (hrB : w0.heap.size ≤ r) (h1 : T ≠ te) (h2 : T ≠ t) (x0 x1 x2 x3 x4 : Value) :
    ∃ A c, v = .slice A d.ss.length c ∧ DfOk w0.heap.size te t k (((((wr.setCell ⟨r, 0, none⟩ x0).setCell ⟨r, 1, none⟩ x1).setCell ⟨r, 2, none⟩ x2).setCell ⟨r, 3, none⟩ x3).setCell ⟨r, 4, none⟩ x4) d A c ∧ Below w0.heap.size w0 (((((wr.setCell ⟨r, 0, none⟩ x0).setCell ⟨r, 1, none⟩ x1).setCell ⟨r, 2, none⟩ x2).setCell ⟨r, 3, none⟩ x3).setCell ⟨r, 4, none⟩ x4) := by
  subst hd
  obtain ⟨A, c, e, hs, h3, h4, -⟩ := h.own.form
  have hbw : Below w0.heap.size w0 wr := hb.trans (h.own.bel.mono hB)
  have hbb := below_put5 hbw hrB x0 x1 x2 x3 x4
  refine ⟨A, c, e, ⟨hs.keep ?_ (stays_put5 hr (Ne.symm h2) _ _ _ _ _) (stays_put5 hr (Ne.symm h1) _ _ _ _ _), h3, h4, hbb.size⟩, hbb⟩
  intro b hlt
  rw [hbb.block b hlt, hbw.block b hlt]
end
theorem retDf {R : Ending → World → Prop} {a : Act} {w : World} {fn : Func} {s : Nat} {q : Nat} {x0 x1 x2 x3 x4 : Value} (hr : fn.results = #[.cell s 33]) (h4 : a.tmps.getD s undef = .pointer (some ⟨q, 0, none⟩)) (hd : a.defers = [])
    (hw : Whole w q 33 [x0, x1, x2, x3, x4]) (hR : R (.returned (.agg #[x0, x1, x2, x3, x4])) w) : bodyPost Tryz.prog fn R .ret a w := by
  have c0 : w.cell? ⟨q, 0, none⟩ = some x0 := hw.cell 0
  have c1 : w.cell? ⟨q, 1, none⟩ = some x1 := hw.cell 1
  have c2 : w.cell? ⟨q, 2, none⟩ = some x2 := hw.cell 2
  have c3 : w.cell? ⟨q, 3, none⟩ = some x3 := hw.cell 3
  have c4 : w.cell? ⟨q, 4, none⟩ = some x4 := hw.cell 4
  clear hw
  rw [Array.getD_eq_getD_getElem?] at h4
  exact bodyPost_ret (v := .agg #[x0, x1, x2, x3, x4]) (by simp [results, hr, h4, c0, c1, c2, c3, c4, go_sem]) hd hR
theorem retD1 {R : Ending → World → Prop} {a : Act} {w : World} {fn : Func} {s : Nat} {q : Nat} {x0 x1 x2 x3 x4 : Value} (hr : fn.results = #[.cell s 38]) (h4 : a.tmps.getD s undef = .pointer (some ⟨q, 0, none⟩)) (hd : a.defers = [])
    (hw : Whole w q 38 [x0, x1, x2, x3, x4]) (hR : R (.returned (.agg #[x0, x1, x2, x3, x4])) w) : bodyPost Tryz.prog fn R .ret a w := by
  have c0 : w.cell? ⟨q, 0, none⟩ = some x0 := hw.cell 0
  have c1 : w.cell? ⟨q, 1, none⟩ = some x1 := hw.cell 1
  have c2 : w.cell? ⟨q, 2, none⟩ = some x2 := hw.cell 2
  have c3 : w.cell? ⟨q, 3, none⟩ = some x3 := hw.cell 3
  have c4 : w.cell? ⟨q, 4, none⟩ = some x4 := hw.cell 4
  clear hw
  rw [Array.getD_eq_getD_getElem?] at h4
  exact bodyPost_ret (v := .agg #[x0, x1, x2, x3, x4]) (by simp [results, hr, h4, c0, c1, c2, c3, c4, go_sem]) hd hR
theorem three_newW (w : World) (o o2 o3 : Obj) : Below w.heap.size w (((w.alloc o).alloc o2).alloc o3) := (((Below.refl _ _).alloc (Nat.le_refl _) _).alloc (by simp) _).alloc (by simp; omega) _
/-! ### small -/
theorem dsmall_any (n : Int) (w : World) : Calls Tryz.prog 32 #[.int .i64 n] w fun e w' => e = .returned (.int .i64 (smallI n)) ∧ w = w' := by
  by_cases h1 : 30 < n
  · by_cases h2 : n ≤ 512
    · have HS : Hid (smallI n = 30) := by unfold Hid smallI; rw [if_pos ⟨h1, h2⟩]
      go_enter Tryz.func32, Tryz.ntmps32
      go_wp2
      go_ret
      exact ⟨by rw [HS.out]; rfl, rfl⟩
    · have HS : Hid (smallI n = n) := by unfold Hid smallI; rw [if_neg (fun q => h2 q.2)]
      go_enter Tryz.func32, Tryz.ntmps32
      go_wp2
      go_ret
      exact ⟨by rw [HS.out]; rfl, rfl⟩
  · have HS : Hid (smallI n = n) := by unfold Hid smallI; rw [if_neg (fun q => h1 q.1)]
    go_enter Tryz.func32, Tryz.ntmps32
    go_wp2
    go_ret
    exact ⟨by rw [HS.out]; rfl, rfl⟩
/-! ### a difference as the document's -/
set_option maxHeartbeats 8000000 in
theorem ldof_any (C : Nat) (te t : TypeId) (d : Df) (A : Option Addr) (n c : Nat) (w : World) (h : Sps C te t .i32 w A d.ss) (hn : d.ss.length = n) (hl : n ≤ 1000000) (hbd : ∀ s ∈ d.ss, s.cs.length ≤ 1000000) (hlb : ∀ s ∈ d.ss, LB s.cs) :
    Calls Tryz.prog 12 #[.agg #[.int .i64 d.rows, .int .i64 d.cols, .int .i64 d.row, .int .i64 d.col, .slice A n c]] w (GaveDf 87 95 .i64 d w) := by
  obtain ⟨R, K, r0, l0, ss⟩ := d
  simp only at h hn hbd hlb ⊢
  obtain ⟨W0, hW0⟩ : ∃ W0, ((w.alloc (.cells #[.int .i64 R, .int .i64 K, .int .i64 r0, .int .i64 l0, .slice A n c] 33)).alloc (.cells #[.int .i64 0, .int .i64 0, .int .i64 0, .int .i64 0, .slice none 0 0] 38)).alloc (.cells #[.int .i64 R, .int .i64 K, .int .i64 r0, .int .i64 l0, .slice none 0 0] 38) = W0 := ⟨_, rfl⟩
  have HB0 : Hid (Below w.heap.size w W0) := by unfold Hid; rw [← hW0]; exact three_newW w _ _ _
  have HX0 : Hid (Whole W0 w.heap.size 33 [.int .i64 R, .int .i64 K, .int .i64 r0, .int .i64 l0, .slice A n c]) := by unfold Hid; rw [← hW0]; exact ((Whole.new w 33 [.int .i64 R, .int .i64 K, .int .i64 r0, .int .i64 l0, .slice A n c]).alloc _).alloc _
  have HR0 : Hid (Whole W0 (w.heap.size + 1) 38 [.int .i64 0, .int .i64 0, .int .i64 0, .int .i64 0, .slice none 0 0]) := by unfold Hid; rw [← hW0]; exact (whole_snd w _ 38 [.int .i64 0, .int .i64 0, .int .i64 0, .int .i64 0, .slice none 0 0]).alloc _
  have hO0 : Whole W0 (w.heap.size + 1 + 1) 38 [.int .i64 R, .int .i64 K, .int .i64 r0, .int .i64 l0, .slice none 0 0] := by rw [← hW0]; exact whole_thd w _ _ 38 [.int .i64 R, .int .i64 K, .int .i64 r0, .int .i64 l0, .slice none 0 0]
  have HU0 : Hid (Ud 38 87 95 .i64 w.heap.size (w.heap.size + 1 + 1) (w.heap.size + 1 + 1) W0 W0 R K r0 l0 (.slice none 0 0) (ss.take 0)) := ⟨hO0, OwnS.start (Nat.le_of_lt hO0.lt) (by omega), Nat.le_refl _⟩
  have HW0 := hide hW0
  have HA := hide h
  have HN := hide hn
  have HBD := hide hbd
  have HLBS := hide hlb
  clear hW0 h hn hbd hlb hO0
  obtain ⟨d0, d1, d2, d3, d4, ld⟩ := cells5 HX0.out
  go_enter Tryz.func12, Tryz.ntmps12
  go_wp2
  rw [HW0.out]
  clear d0 d1 d2 d3 d4 ld
  go_loopw [4] (fun i wr => ∃ (k : Nat) (v : Value), k ≤ n ∧ i = .int .i64 k ∧ Ud 38 87 95 .i64 w.heap.size (w.heap.size + 1 + 1) (w.heap.size + 1 + 1) W0 wr R K r0 l0 v (ss.take k)) (fun i _ => n - (intOf i).toNat)
  case atStart => exact ⟨0, _, Nat.zero_le _, rfl, HU0.out⟩
  case round =>
    obtain ⟨k, v, hk, rfl, hu⟩ := hrel
    have HU := hide hu
    have HXr := hide (HX0.out.below hu.own.bel (by omega))
    clear hu
    obtain ⟨d0, d1, d2, d3, d4, ld⟩ := cells5 HXr.out
    by_cases hlt : k < n
    · obtain ⟨b, off, A1, c1, rfl, lb0, x0, x1, x2, xi, -⟩ := HA.out.at (i := k) (by rw [HN.out]; exact hlt)
      have hbw : Below w.heap.size w wr := HB0.out.trans (HU.out.own.bel.mono (by omega))
      rw [← hbw.cell (p := ⟨b, off + k * 3, none⟩) lb0] at x0
      rw [← hbw.cell (p := ⟨b, off + k * 3 + 1, none⟩) lb0] at x1
      rw [← hbw.cell (p := ⟨b, off + k * 3 + 2, none⟩) lb0] at x2
      have lb : b < wr.heap.size := Nat.lt_of_lt_of_le lb0 hbw.size
      have hlu : (sAt ss k).cs.length ≤ 1000000 := HBD.out _ (mem_sAt ss k (by rw [HN.out]; exact hlt))
      have hlk : LB (sAt ss k).cs := HLBS.out _ (mem_sAt ss k (by rw [HN.out]; exact hlt))
      have hnx := take_nextS ss k (by rw [HN.out]; exact hlt)
      have hci := xi.cels.below hbw
      obtain ⟨x, hx⟩ : ∃ x, sAt ss k = x := ⟨_, rfl⟩
      rw [hx] at x0 x1 x2 hci hlu hlk hnx
      obtain ⟨r, l, cs⟩ := x
      simp only at x0 x1 x2 hci hlu hlk hnx
      obtain ⟨u, hnu⟩ : ∃ u, cs.length = u := ⟨_, rfl⟩
      rw [hnu] at x2 hlu
      have HCI := hide hci
      have HNU := hide hnu
      have HLB := hide hlk
      have HNX := hide hnx
      obtain ⟨A3, c3, rfl⟩ := HU.out.slice
      obtain ⟨kn, hkn⟩ : ∃ kn, (ss.take k).length = kn := ⟨_, rfl⟩
      rw [hkn] at HU
      have HKN := hide hkn
      clear hci hnu hlk hnx hx hkn xi
      obtain ⟨g0, g1, g2, g3, g4, lg⟩ := cells5 HU.out.out
      go_wp2
      refine rgL (fun w' => Below wr.heap.size wr w') 23 [(0, 4), (0, 10), (0, 16), (0, 0), (0, 2), (0, 8), (0, 14), (0, 1), (0, 3), (0, 5), (0, 6), (0, 7), (0, 9), (0, 11), (0, 12), (0, 13), (1, 15), (1, 17), (1, 18), (1, 19), (1, 20), (1, 21), (1, 22), (3, 23), (3, 24), (3, 25)] ((Below.refl _ _).drewN 1) ?_
      iterate 7 refine stL (h := ?_)
      refine stL (hy := fun w hS => by obtain ⟨f0, f1, f2, f3, f4, -⟩ := cells5 (HU.out.out.later hS); go_simp <;> with_reducible rfl) (h := ?_)
      refine stL (hy := fun w hS => by obtain ⟨f0, f1, f2, f3, f4, -⟩ := cells5 (HXr.out.later hS); go_simp <;> with_reducible rfl) (h := ?_)
      iterate 2 refine stL (h := ?_)
      refine stL (hy := fun w hS => by rw [← hS.cell (by simpa using lb)] at x0 x1 x2; go_simp <;> with_reducible rfl) (h := ?_)
      refine stL (hy := fun w hS => by obtain ⟨f0, f1, f2, f3, f4, -⟩ := cells5 (HXr.out.later hS); go_simp <;> with_reducible rfl) (h := ?_)
      iterate 2 refine stL (h := ?_)
      refine stL (hy := fun w hS => by rw [← hS.cell (by simpa using lb)] at x0 x1 x2; go_simp <;> with_reducible rfl) (h := ?_)
      obtain ⟨f0, f1, f2, f3, f4, lf⟩ := cells5 HXr.out.drew
      refine alL fun K hK => ?_
      go_wp2
      refine hK.out _ _ ((Below.refl _ _).drewN 1) ?_
      clear hK K
      refine alL fun K hK => ?_
      go_wp2
      refine hK.out _ _ ((Below.refl _ _).drewN 1) ?_
      clear hK K
      refine alL fun K hK => ?_
      go_wp2
      refine hK.out _ _ ((Below.refl _ _).drewN 1) ?_
      clear hK K
      refine alL fun K hK => ?_
      go_wp2
      refine hK.out _ _ ((Below.refl _ _).drewN 1) ?_
      clear hK K
      refine alL fun K hK => ?_
      go_wp2_with fail
      refine (lineof_any A1 u c1 cs _ HCI.out.drew HNU.out hlu HLB.out).mono ?_
      rintro e k1 ⟨v1, rfl, hown⟩
      obtain ⟨A2, c2, rfl, hct, hn2, hz2, -⟩ := hown.typed (C := w.heap.size)
      rw [HNU.out] at hn2 ⊢
      have hb1 : Below wr.heap.size wr k1 := ((Below.refl wr.heap.size wr).drewN 1).trans hown.bel
      have HB1 := hide hb1
      have HCT := hide hct
      clear hb1 hown hct
      go_wp2
      refine hK.out _ _ (HB1.out) ?_
      clear hK K
      refine alL fun K hK => ?_
      go_wp2
      refine hK.out _ _ (HB1.out) ?_
      clear hK K
      refine alL fun K hK => ?_
      go_wp2
      refine hK.out _ _ (HB1.out.alloc HB1.out.size _) ?_
      clear hK K
      refine laL fun K hK => ?_
      go_wp2_with (at_builtin; refine stopw ?_)
      unfold Hid
      refine wpList_pushS elemRSp r l A2 c2 cs u HNU.out HCT.out hn2 hz2 rfl _ _ rfl rfl rfl (HU.out.later HB1.out).own (by rw [List.length_take, HN.out]; omega) (by omega) (by decide) ?_
      intro v2 w2 hown2 hst2 hbl2
      obtain ⟨A5, n5, c5, rfl⟩ := hown2.slice
      have HUN := hide (Ud.grow ((HU.out.later HB1.out).out.alloc _) HU.out.le hown2 hst2 (by decide) (by decide))
      have HQ2 := hide (((HU.out.later HB1.out).out.alloc (.cells #[.int .i64 r, .int .i64 l, .slice A2 u c2] 87)).same (hst2 _ (by decide) _ _ ((HU.out.later HB1.out).out.alloc (.cells #[.int .i64 r, .int .i64 l, .slice A2 u c2] 87))))
      clear hown2 hst2 hbl2
      go_wp2
      refine hK.out _ _ ?_
      clear hK K
      refine laL fun K hK => ?_
      go_wp2
      refine hK.out _ _ ?_
      clear hK K
      have hfz := HQ2.out.frozen
      obtain ⟨g0, g1, g2, g3, g4, lg⟩ := cells5 HQ2.out
      refine laL fun K hK => ?_
      go_wp2
      refine hK.out _ _ ?_
      clear hK K
      refine chainL_nil ?_
      go_wp2
      go_roundw
      case rel => exact ⟨k + 1, _, hlt, by go_num, by rw [HNX.out]; exact HUN.out⟩
      case measure => simp [intOf]; omega
    · have hk2 : k = n := by omega
      obtain ⟨A3, c3, rfl⟩ := HU.out.slice
      have htk : ss.take k = ss := by rw [List.take_of_length_le (by rw [HN.out]; omega)]
      rw [htk] at HU
      rw [htk, HN.out] at *
      have HR := hide (HR0.out.below HU.out.own.bel (by omega))
      have HD := hide (HU.out.done (d := ⟨R, K, r0, l0, ss⟩) HB0.out (by omega) rfl HR.out (by omega) (by decide) (by decide) (.int .i64 R) (.int .i64 K) (.int .i64 r0) (.int .i64 l0) (.slice A3 n c3))
      have HP := hide (put5 HR.out (.int .i64 R) (.int .i64 K) (.int .i64 r0) (.int .i64 l0) (.slice A3 n c3))
      obtain ⟨g0, g1, g2, g3, g4, lg⟩ := cells5 HU.out.out
      obtain ⟨z0, z1, z2, z3, z4, lr⟩ := cells5 HR.out
      have fr := HR.out.frozen
      clear d0 d1 d2 d3 d4 ld
      obtain ⟨d0, d1, d2, d3, d4, ld⟩ := cells5 HXr.out
      go_wp2

      obtain ⟨A4, c4, e4, h5, h6⟩ := HD.out
      exact retD1 Tryz.results12 rfl rfl HP.out ⟨A4, c4, by rw [e4], h5, h6⟩
end Go.Proofs.YtoddfaoifnkhlaaGreatDoor
