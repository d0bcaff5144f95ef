/-
  Contract: a difference brought to what is looked at here (the law's Cut).
-/
import Derived.Test.YtoddfaoifnkhlaaGreatDoorDLaw
import Derived.Deep.DeepCutAuto
import Derived.Deep.CutRange
namespace Go.Proofs.YtoddfaoifnkhlaaGreatDoor
set_option maxRecDepth 100000
open Go.ChangeShapes Go.WideShapes Go.ChangeAt Go.RowKit
set_option linter.unusedVariables false

def cutS (s : Sp) : Sp := ⟨s.row, s.col, s.cs.take 30⟩
def cutTo (ss : List Sp) (k : Nat) : List Sp := (ss.take k).map cutS
def cutD (d : Df) : Df := ⟨smallI d.rows, smallI d.cols, d.row, d.col, cutTo d.ss 10⟩
/-- The call gave this difference, whose spans and cells lie in blocks of their own types, and left all that was there. -/
def GaveDf0 (te t : TypeId) (k : IntKind) (d : Df) (w : World) (e : Ending) (w' : World) : Prop := ∃ A c, e = .returned (.agg #[.int .i64 d.rows, .int .i64 d.cols, .int .i64 d.row, .int .i64 d.col, .slice A d.ss.length c]) ∧ DfOk 0 te t k w' d A c ∧ Below w.heap.size w w'
theorem Ud.done0 {T te t : TypeId} {k : IntKind} {q B : Nat} {w wr : World} {a1 a2 a3 a4 : Int} {v : Value} {ss : List Sp} {w0 : World} {r : Nat} {l : List Value} {d : Df} (h : Ud T te t k 0 q B w wr a1 a2 a3 a4 v ss) (hb : Below w0.heap.size w0 w) (hB : w0.heap.size ≤ B) (hd : d = ⟨a1, a2, a3, a4, ss⟩) (hr : Whole wr r T l) (hrB : w0.heap.size ≤ r) (h1 : T ≠ te) (h2 : T ≠ t) (x0 x1 x2 x3 x4 : Value) :
    ∃ A c, v = .slice A d.ss.length c ∧ DfOk 0 te t k (((((wr.setCell ⟨r, 0, none⟩ x0).setCell ⟨r, 1, none⟩ x1).setCell ⟨r, 2, none⟩ x2).setCell ⟨r, 3, none⟩ x3).setCell ⟨r, 4, none⟩ x4) d A c ∧ Below w0.heap.size w0 (((((wr.setCell ⟨r, 0, none⟩ x0).setCell ⟨r, 1, none⟩ x1).setCell ⟨r, 2, none⟩ x2).setCell ⟨r, 3, none⟩ x3).setCell ⟨r, 4, none⟩ x4) := by
  subst hd
  obtain ⟨A, c, e, hs, h3, h4, -⟩ := h.own.form
  have hbw : Below w0.heap.size w0 wr := hb.trans (h.own.bel.mono hB)
  exact ⟨A, c, e, ⟨hs.keep (fun b hb => absurd hb (Nat.not_lt_zero _)) (stays_put5 hr (Ne.symm h2) _ _ _ _ _) (stays_put5 hr (Ne.symm h1) _ _ _ _ _), h3, h4, Nat.zero_le _⟩, below_put5 hbw hrB x0 x1 x2 x3 x4⟩
theorem cutTo_next (ss : List Sp) (k : Nat) (h : k < ss.length) : cutTo ss (k + 1) = cutTo ss k ++ [cutS (sAt ss k)] := by unfold cutTo; rw [take_nextS ss k h, List.map_append]; rfl
theorem cutTo_end (ss : List Sp) (k : Nat) (h1 : k ≤ 10) (h : ss.length ≤ k ∨ 10 ≤ k) : cutTo ss k = cutTo ss 10 := by
  unfold cutTo
  rcases h with h | h
  · rw [List.take_of_length_le h, List.take_of_length_le (by omega)]
  · rw [show k = 10 by omega]
theorem cutTo_len (ss : List Sp) (k : Nat) : (cutTo ss k).length ≤ k := by unfold cutTo; rw [List.length_map, List.length_take]; omega
theorem cut_cells (d : Df) : ∀ s ∈ (cutD d).ss, s.cs.length ≤ 30 := by
  intro s hs
  obtain ⟨x, -, rfl⟩ := List.mem_map.1 hs
  show (x.cs.take 30).length ≤ 30
  rw [List.length_take]; omega
theorem cut_LB (d : Df) (h : ∀ s ∈ d.ss, LB s.cs) : ∀ s ∈ (cutD d).ss, LB s.cs := by
  intro s hs
  obtain ⟨x, hx, rfl⟩ := List.mem_map.1 hs
  intro i hi
  have hi2 : i < (x.cs.take 30).length := hi
  rw [List.length_take] at hi2
  show CelB (cAt (x.cs.take 30) i)
  rw [cAt_take _ _ _ (by omega)]
  exact h x (List.mem_of_mem_take hx) i (by omega)
set_option maxHeartbeats 8000000 in
theorem dcut_any (C : Nat) (te t : TypeId) (d : Df) (A : Option Addr) (n c : Nat) (w : World) (h : Sps C te t .i32 w A d.ss) (hn : d.ss.length = n) :
    Calls Tryz.prog 19 #[.agg #[.int .i64 d.rows, .int .i64 d.cols, .int .i64 d.row, .int .i64 d.col, .slice A n c]] w (GaveDf0 47 65 .i32 (cutD d) w) := by
  obtain ⟨R, S9, r0, l0, ss⟩ := d
  simp only at h hn ⊢
  obtain ⟨W0, hW0⟩ : ∃ W0, (w.alloc (.cells #[.int .i64 R, .int .i64 S9, .int .i64 r0, .int .i64 l0, .slice A n c] 33)).alloc (.cells #[.int .i64 0, .int .i64 0, .int .i64 0, .int .i64 0, .slice none 0 0] 33) = W0 := ⟨_, rfl⟩
  have HB0 : Hid (Below w.heap.size w W0) := by unfold Hid; rw [← hW0]; exact two_new w _ _ [.int .i64 R, .int .i64 S9, .int .i64 r0, .int .i64 l0, .slice A n c] [.int .i64 0, .int .i64 0, .int .i64 0, .int .i64 0, .slice none 0 0]
  have HX0 : Hid (Whole W0 w.heap.size 33 [.int .i64 R, .int .i64 S9, .int .i64 r0, .int .i64 l0, .slice A n c]) := by unfold Hid; rw [← hW0]; exact (Whole.new w 33 [.int .i64 R, .int .i64 S9, .int .i64 r0, .int .i64 l0, .slice A n c]).alloc _
  have HR0 : Hid (Whole W0 (w.heap.size + 1) 33 [.int .i64 0, .int .i64 0, .int .i64 0, .int .i64 0, .slice none 0 0]) := by unfold Hid; rw [← hW0]; exact whole_snd w _ 33 [.int .i64 0, .int .i64 0, .int .i64 0, .int .i64 0, .slice none 0 0]
  have HW0 := hide hW0
  have HA := hide h
  have HN := hide hn
  clear hW0 h hn
  obtain ⟨d0, d1, d2, d3, d4, ld⟩ := cells5 HX0.out
  go_enter Tryz.func19, Tryz.ntmps19
  go_upto_region 1 with fail
  rw [HW0.out]
  go_cut [3] from 6 to 16 (fun p wx => p = .pointer (some ⟨W0.heap.size, 0, none⟩) ∧ Hid (Whole wx W0.heap.size 33 [.int .i64 (smallI R), .int .i64 (smallI S9), .int .i64 r0, .int .i64 l0, .slice none 0 0] ∧ Below W0.heap.size W0 wx))
  case first =>
    refine rgT (fun w' => Below W0.heap.size W0 w') (.take 0 (.take 3 (.take 6 (.take 8 (.take 1 (.take 4 (.take 7 (.take 9 (.two 2 (.two 5 (.take 10 (.alone 11 (.alone 12 .done))) 11 (.alone 5 (.take 10 (.alone 12 .done)))) 11 (.alone 2 (.alone 5 (.take 10 (.alone 12 .done))))))))))))) ((Below.refl _ _).drewN 1) ?_
    iterate 4 refine stT (h := ?_)
    refine stT (hy := fun w hS => by obtain ⟨f0, f1, f2, f3, f4, -⟩ := cells5 (HX0.out.later hS); go_simp <;> with_reducible rfl) (h := ?_)
    refine stT (hy := fun w hS => by obtain ⟨f0, f1, f2, f3, f4, -⟩ := cells5 (HX0.out.later hS); go_simp <;> with_reducible rfl) (h := ?_)
    refine stT (hy := fun w hS => by obtain ⟨f0, f1, f2, f3, f4, -⟩ := cells5 (HX0.out.later hS); go_simp <;> with_reducible rfl) (h := ?_)
    refine stT (hy := fun w hS => by obtain ⟨f0, f1, f2, f3, f4, -⟩ := cells5 (HX0.out.later hS); go_simp <;> with_reducible rfl) (h := ?_)
    refine tree_two (by simp only [List.getElem?_toArray, List.getElem?_cons_zero, List.getElem?_cons_succ]; rfl) (by simp only [List.getElem?_toArray, List.getElem?_cons_zero, List.getElem?_cons_succ]; rfl) ?_ ?_
    · intro K hK
      go_wp2_with fail
      refine (dsmall_any R _).mono ?_
      rintro e k1 ⟨rfl, rfl⟩
      go_wp2
      refine hK.out _ _ ((Below.refl _ _).drewN 1) ?_
      clear hK K
      refine tree_two (by simp only [List.getElem?_toArray, List.getElem?_cons_zero, List.getElem?_cons_succ]; rfl) (by simp only [List.getElem?_toArray, List.getElem?_cons_zero, List.getElem?_cons_succ]; rfl) ?_ ?_
      · intro K hK
        go_wp2_with fail
        refine (dsmall_any S9 _).mono ?_
        rintro e k1 ⟨rfl, rfl⟩
        go_wp2
        refine hK.out _ _ ((Below.refl _ _).drewN 1) ?_
        clear hK K
        refine stT (h := ?_)
        refine alT fun K hK => ?_
        go_wp2
        refine hK.out _ _ (((Below.refl _ _).alloc (Nat.le_refl _) _).drewN 1) ?_
        clear hK K
        obtain ⟨V, hV⟩ : ∃ V, (W0.alloc (.cells #[.int .i64 0, .int .i64 0, .int .i64 0, .int .i64 0, .slice none 0 0] 33)).drew = V := ⟨_, rfl⟩
        have hV0 : Whole V W0.heap.size 33 [.int .i64 0, .int .i64 0, .int .i64 0, .int .i64 0, .slice none 0 0] := by rw [← hV]; exact (Whole.new W0 33 [.int .i64 0, .int .i64 0, .int .i64 0, .int .i64 0, .slice none 0 0]).drew
        have hVB : Below W0.heap.size W0 V := by rw [← hV]; exact ((Below.refl _ _).alloc (Nat.le_refl _) _).drewN 1
        have hVF := hV0.frozen
        obtain ⟨p0, p1, p2, p3, p4, lp⟩ := cells5 hV0
        rw [hV]
        refine alT fun K hK => ?_
        go_wp2
        refine hK.out _ _ (below_put5 hVB (Nat.le_refl _) _ _ _ _ _) ?_
        clear hK K
        have HF1 : Hid (Whole (((((V.setCell ⟨W0.heap.size, 0, none⟩ (.int .i64 (smallI R))).setCell ⟨W0.heap.size, 1, none⟩ (.int .i64 (smallI S9))).setCell ⟨W0.heap.size, 2, none⟩ (.int .i64 r0)).setCell ⟨W0.heap.size, 3, none⟩ (.int .i64 l0)).setCell ⟨W0.heap.size, 4, none⟩ (.slice none 0 0)) W0.heap.size 33 [.int .i64 (smallI R), .int .i64 (smallI S9), .int .i64 r0, .int .i64 l0, .slice none 0 0] ∧ Below W0.heap.size W0 (((((V.setCell ⟨W0.heap.size, 0, none⟩ (.int .i64 (smallI R))).setCell ⟨W0.heap.size, 1, none⟩ (.int .i64 (smallI S9))).setCell ⟨W0.heap.size, 2, none⟩ (.int .i64 r0)).setCell ⟨W0.heap.size, 3, none⟩ (.int .i64 l0)).setCell ⟨W0.heap.size, 4, none⟩ (.slice none 0 0))) := ⟨put5 hV0 _ _ _ _ _, below_put5 hVB (Nat.le_refl _) _ _ _ _ _⟩
        refine tree_done ?_
        go_wp2
        go_meet
        case rel => exact ⟨rfl, HF1⟩
      · intro K hK
        go_wp2
        refine hK.out _ _ (((Below.refl _ _).alloc (Nat.le_refl _) _).drewN 1) ?_
        clear hK K
        refine alT fun K hK => ?_
        go_wp2_with fail
        refine (dsmall_any S9 _).mono ?_
        rintro e k1 ⟨rfl, rfl⟩
        go_wp2
        refine hK.out _ _ (((Below.refl _ _).alloc (Nat.le_refl _) _).drewN 1) ?_
        clear hK K
        refine stT (h := ?_)
        obtain ⟨V, hV⟩ : ∃ V, (W0.alloc (.cells #[.int .i64 0, .int .i64 0, .int .i64 0, .int .i64 0, .slice none 0 0] 33)).drew = V := ⟨_, rfl⟩
        have hV0 : Whole V W0.heap.size 33 [.int .i64 0, .int .i64 0, .int .i64 0, .int .i64 0, .slice none 0 0] := by rw [← hV]; exact (Whole.new W0 33 [.int .i64 0, .int .i64 0, .int .i64 0, .int .i64 0, .slice none 0 0]).drew
        have hVB : Below W0.heap.size W0 V := by rw [← hV]; exact ((Below.refl _ _).alloc (Nat.le_refl _) _).drewN 1
        have hVF := hV0.frozen
        obtain ⟨p0, p1, p2, p3, p4, lp⟩ := cells5 hV0
        rw [hV]
        refine alT fun K hK => ?_
        go_wp2
        refine hK.out _ _ (below_put5 hVB (Nat.le_refl _) _ _ _ _ _) ?_
        clear hK K
        have HF1 : Hid (Whole (((((V.setCell ⟨W0.heap.size, 0, none⟩ (.int .i64 (smallI R))).setCell ⟨W0.heap.size, 1, none⟩ (.int .i64 (smallI S9))).setCell ⟨W0.heap.size, 2, none⟩ (.int .i64 r0)).setCell ⟨W0.heap.size, 3, none⟩ (.int .i64 l0)).setCell ⟨W0.heap.size, 4, none⟩ (.slice none 0 0)) W0.heap.size 33 [.int .i64 (smallI R), .int .i64 (smallI S9), .int .i64 r0, .int .i64 l0, .slice none 0 0] ∧ Below W0.heap.size W0 (((((V.setCell ⟨W0.heap.size, 0, none⟩ (.int .i64 (smallI R))).setCell ⟨W0.heap.size, 1, none⟩ (.int .i64 (smallI S9))).setCell ⟨W0.heap.size, 2, none⟩ (.int .i64 r0)).setCell ⟨W0.heap.size, 3, none⟩ (.int .i64 l0)).setCell ⟨W0.heap.size, 4, none⟩ (.slice none 0 0))) := ⟨put5 hV0 _ _ _ _ _, below_put5 hVB (Nat.le_refl _) _ _ _ _ _⟩
        refine tree_done ?_
        go_wp2
        go_meet
        case rel => exact ⟨rfl, HF1⟩
    · intro K hK
      go_wp2
      refine hK.out _ _ (((Below.refl _ _).alloc (Nat.le_refl _) _).drewN 1) ?_
      clear hK K
      refine alT fun K hK => ?_
      go_wp2_with fail
      refine (dsmall_any R _).mono ?_
      rintro e k1 ⟨rfl, rfl⟩
      go_wp2
      refine hK.out _ _ (((Below.refl _ _).alloc (Nat.le_refl _) _).drewN 1) ?_
      clear hK K
      refine alT fun K hK => ?_
      go_wp2_with fail
      refine (dsmall_any S9 _).mono ?_
      rintro e k1 ⟨rfl, rfl⟩
      go_wp2
      refine hK.out _ _ (((Below.refl _ _).alloc (Nat.le_refl _) _).drewN 1) ?_
      clear hK K
      refine stT (h := ?_)
      obtain ⟨V, hV⟩ : ∃ V, (W0.alloc (.cells #[.int .i64 0, .int .i64 0, .int .i64 0, .int .i64 0, .slice none 0 0] 33)).drew = V := ⟨_, rfl⟩
      have hV0 : Whole V W0.heap.size 33 [.int .i64 0, .int .i64 0, .int .i64 0, .int .i64 0, .slice none 0 0] := by rw [← hV]; exact (Whole.new W0 33 [.int .i64 0, .int .i64 0, .int .i64 0, .int .i64 0, .slice none 0 0]).drew
      have hVB : Below W0.heap.size W0 V := by rw [← hV]; exact ((Below.refl _ _).alloc (Nat.le_refl _) _).drewN 1
      have hVF := hV0.frozen
      obtain ⟨p0, p1, p2, p3, p4, lp⟩ := cells5 hV0
      rw [hV]
      refine alT fun K hK => ?_
      go_wp2
      refine hK.out _ _ (below_put5 hVB (Nat.le_refl _) _ _ _ _ _) ?_
      clear hK K
      have HF1 : Hid (Whole (((((V.setCell ⟨W0.heap.size, 0, none⟩ (.int .i64 (smallI R))).setCell ⟨W0.heap.size, 1, none⟩ (.int .i64 (smallI S9))).setCell ⟨W0.heap.size, 2, none⟩ (.int .i64 r0)).setCell ⟨W0.heap.size, 3, none⟩ (.int .i64 l0)).setCell ⟨W0.heap.size, 4, none⟩ (.slice none 0 0)) W0.heap.size 33 [.int .i64 (smallI R), .int .i64 (smallI S9), .int .i64 r0, .int .i64 l0, .slice none 0 0] ∧ Below W0.heap.size W0 (((((V.setCell ⟨W0.heap.size, 0, none⟩ (.int .i64 (smallI R))).setCell ⟨W0.heap.size, 1, none⟩ (.int .i64 (smallI S9))).setCell ⟨W0.heap.size, 2, none⟩ (.int .i64 r0)).setCell ⟨W0.heap.size, 3, none⟩ (.int .i64 l0)).setCell ⟨W0.heap.size, 4, none⟩ (.slice none 0 0))) := ⟨put5 hV0 _ _ _ _ _, below_put5 hVB (Nat.le_refl _) _ _ _ _ _⟩
      refine tree_done ?_
      go_wp2
      go_meet
      case rel => exact ⟨rfl, HF1⟩
  case rest =>
    obtain ⟨rfl, HH⟩ := hcut
    have HB1 := hide HH.out.2
    have HX1 := hide (HX0.out.later HB1.out)
    have HR1 := hide (HR0.out.later HB1.out)
    have HQ1 : Hid (w.heap.size + 1 < W0.heap.size) := HR0.out.lt
    have hS9 := HH.out.1
    have HBw : Hid (Below w.heap.size w wc) := HB0.out.trans (HB1.out.mono HB0.out.size)
    clear HH HB1 d0 d1 d2 d3 d4 ld
    obtain ⟨Q, hQ⟩ : ∃ Q, W0.heap.size = Q := ⟨_, rfl⟩
    rw [hQ] at hS9 HQ1 ⊢
    clear hQ
    have HU0 : Hid (Ud 33 47 65 .i32 0 Q Q wc wc (smallI R) (smallI S9) r0 l0 (.slice none 0 0) (cutTo ss 0)) := ⟨hS9, OwnS.start (Nat.le_of_lt hS9.lt) (Nat.zero_le _), Nat.le_refl _⟩
    clear hS9
    go_wp2
    go_loopw [4, 5] (fun i _ wr => ∃ (k : Nat) (v : Value), k ≤ n ∧ k ≤ 10 ∧ i = .int .i64 k ∧ Ud 33 47 65 .i32 0 Q Q wc wr (smallI R) (smallI S9) r0 l0 v (cutTo ss k)) (fun i _ _ => n - (intOf i).toNat)
    case atStart => exact ⟨0, _, Nat.zero_le _, Nat.zero_le _, rfl, HU0.out⟩
    case round =>
      obtain ⟨k, v, hk, hk10, rfl, hu⟩ := hrel
      have HU := hide hu
      have HXr := hide (HX1.out.below hu.own.bel (by have := HQ1.out; omega))
      clear hu
      obtain ⟨d0, d1, d2, d3, d4, ld⟩ := cells5 HXr.out
      by_cases hgo : k < n ∧ k < 10
      · obtain ⟨hlt, hlt2⟩ := hgo
        obtain ⟨b, off, A1, c1, rfl, lb0, x0, x1, x2, xi, hn1, hz1⟩ := HA.out.at (i := k) (by rw [HN.out]; exact hlt)
        have hbw : Below w.heap.size w wr := HBw.out.trans (HU.out.own.bel.mono (by have := HQ1.out; omega))
        rw [← hbw.cell (p := ⟨b, off + k * 3, none⟩) lb0] at x0
        rw [← hbw.cell (p := ⟨b, off + k * 3 + 1, none⟩) lb0] at x1
        rw [← hbw.cell (p := ⟨b, off + k * 3 + 2, none⟩) lb0] at x2
        have lb : b < wr.heap.size := Nat.lt_of_lt_of_le lb0 hbw.size
        have hnx := cutTo_next ss k (by rw [HN.out]; exact hlt)
        have hci := xi.cels.below hbw
        obtain ⟨x, hx⟩ : ∃ x, sAt ss k = x := ⟨_, rfl⟩
        rw [hx] at x0 x1 x2 hci hnx hn1
        obtain ⟨r, l, cs⟩ := x
        simp only at x0 x1 x2 hci hnx hn1
        obtain ⟨u, hnu⟩ : ∃ u, cs.length = u := ⟨_, rfl⟩
        rw [hnu] at x2 hn1
        have htk : cs.take (min u 30) = cs.take 30 := by
          rw [← hnu]
          by_cases q : cs.length ≤ 30
          · rw [Nat.min_eq_left q, List.take_of_length_le (Nat.le_refl _), List.take_of_length_le q]
          · rw [Nat.min_eq_right (by omega)]
        have hnx2 : cutTo ss (k + 1) = cutTo ss k ++ [⟨r, l, cs.take (min u 30)⟩] := by rw [hnx, htk]; rfl
        obtain ⟨ks, hks⟩ : ∃ ks, cs.take (min u 30) = ks := ⟨_, rfl⟩
        rw [hks] at hnx2
        obtain ⟨ku, hku⟩ : ∃ ku, ks.length = ku := ⟨_, rfl⟩
        have HKU := hide hku
        have HKS := hide hks
        obtain ⟨W1, hW1⟩ : ∃ W1, wr.alloc (.cells #[.int .i64 r, .int .i64 l, .slice A1 u c1] 47) = W1 := ⟨_, rfl⟩
        obtain ⟨P1, hP1⟩ : ∃ P1, wr.heap.size = P1 := ⟨_, rfl⟩
        have HZ1 : Hid (Whole W1 P1 47 [.int .i64 r, .int .i64 l, .slice A1 u c1]) := by unfold Hid; rw [← hW1, ← hP1]; exact Whole.new wr 47 [.int .i64 r, .int .i64 l, .slice A1 u c1]
        have HB1 : Hid (Below wr.heap.size wr W1) := by unfold Hid; rw [← hW1]; exact new1W _ _
        have HCI := hide (hci.below HB1.out)
        have HNU := hide hnu
        have HNX := hide hnx2
        obtain ⟨A3, c3, rfl⟩ := HU.out.slice
        obtain ⟨kn, hkn⟩ : ∃ kn, (cutTo ss k).length = kn := ⟨_, rfl⟩
        have hkn2 : kn ≤ 10 := by rw [← hkn]; exact Nat.le_trans (cutTo_len ss k) hk10
        have HKL : Hid ((cutTo ss k).length ≤ 1000000) := by unfold Hid; omega
        rw [hkn] at HU
        have HKN := hide hkn
        have HW1 := hide hW1
        have HP1 := hide hP1
        clear hci hnu hnx hnx2 hx hkn xi hks hku htk hW1 hP1 hbw lb0
        obtain ⟨z0, z1, z2, lz⟩ := cells3 HZ1.out
        go_wp2_with fail
        rw [HW1.out, HP1.out]
        refine (lcut_any A1 u c1 cs W1 HCI.out (by rw [HNU.out]; exact Nat.le_refl _) hz1 hn1).mono ?_
        rintro e k1 ⟨v1, rfl, hown⟩
        rw [HKS.out] at hown
        obtain ⟨A2, c2, rfl, hct, hn2, hz2, -⟩ := hown.typed (C := 0)
        rw [HKU.out] at hn2 ⊢
        have hZ2 := HZ1.out.later hown.bel
        have HZ3 : Hid (Whole (k1.setCell ⟨P1, 2, none⟩ (.slice A2 ku c2)) P1 47 [.int .i64 r, .int .i64 l, .slice A2 ku c2]) := hZ2.put 2 _
        have HB3 : Hid (Below wr.heap.size wr (k1.setCell ⟨P1, 2, none⟩ (.slice A2 ku c2))) := (HB1.out.trans (hown.bel.mono HB1.out.size)).setCell (p := ⟨P1, 2, none⟩) (by rw [HP1.out]; exact Nat.le_refl _) _
        have HCT : Hid (CelsT 0 65 .i32 (k1.setCell ⟨P1, 2, none⟩ (.slice A2 ku c2)) A2 ks) := hct.keep (fun b hb => absurd hb (Nat.not_lt_zero _)) (Stays.put hZ2 (by decide))
        have HU3 := hide (HU.out.later HB3.out)
        clear z0 z1 z2 lz
        obtain ⟨z0, z1, z2, lz⟩ := cells3 hZ2
        have zf := hZ2.frozen
        obtain ⟨W3, hW3⟩ : ∃ W3, k1.setCell ⟨P1, 2, none⟩ (.slice A2 ku c2) = W3 := ⟨_, rfl⟩
        rw [hW3] at HZ3 HCT HU3
        have HW3 := hide hW3
        clear hct hown hZ2 hW3 HB3 d0 d1 d2 d3 d4 ld x0 x1 x2
        go_upto_region 7 with fail
        rw [HW3.out]
        clear z0 z1 z2 lz zf
        obtain ⟨z0, z1, z2, lz⟩ := cells3 HZ3.out
        obtain ⟨g0, g1, g2, g3, g4, lg⟩ := cells5 HU3.out.out
        go_wp2_with (at_builtin; refine stopw ?_)
        unfold Hid
        refine wpList_pushS elemSp r l A2 c2 ks ku HKU.out HCT.out hn2 hz2 rfl _ _ rfl rfl rfl HU3.out.own HKL.out (by decide) (by decide) ?_
        intro v2 w2 hown2 hst2 hbl2
        obtain ⟨A5, n5, c5, rfl⟩ := hown2.slice
        have HUN := hide (Ud.grow (HU3.out.out.alloc _) HU3.out.le hown2 hst2 (by decide) (by decide))
        have HQ2 := hide ((HU3.out.out.alloc (.cells #[.int .i64 r, .int .i64 l, .slice A2 ku c2] 47)).same (hst2 _ (by decide) _ _ (HU3.out.out.alloc (.cells #[.int .i64 r, .int .i64 l, .slice A2 ku c2] 47))))
        clear hown2 hst2 hbl2 g0 g1 g2 g3 g4 lg z0 z1 z2 lz
        have hfz := HQ2.out.frozen
        obtain ⟨g0, g1, g2, g3, g4, lg⟩ := cells5 HQ2.out
        go_wp2
        go_roundw
        case rel => exact ⟨k + 1, _, hlt, hlt2, by go_num, by rw [HNX.out]; exact HUN.out⟩
        case measure => simp [intOf]; omega
      · have hend : cutTo ss k = cutTo ss 10 := cutTo_end ss k hk10 (by rw [HN.out]; omega)
        rw [hend] at HU
        obtain ⟨A3, c3, rfl⟩ := HU.out.slice
        have HR := hide (HR1.out.below HU.out.own.bel HQ1.out)
        obtain ⟨mm, hmm⟩ : ∃ mm, (cutTo ss 10).length = mm := ⟨_, rfl⟩
        have HD := hide (HU.out.done0 (d := cutD ⟨R, S9, r0, l0, ss⟩) HBw.out (by have := HQ1.out; omega) rfl HR.out (by omega) (by decide) (by decide) (.int .i64 (smallI R)) (.int .i64 (smallI S9)) (.int .i64 r0) (.int .i64 l0) (.slice A3 mm c3))
        rw [hmm] at HU HD
        have HP := hide (put5 HR.out (.int .i64 (smallI R)) (.int .i64 (smallI S9)) (.int .i64 r0) (.int .i64 l0) (.slice A3 mm c3))
        obtain ⟨g0, g1, g2, g3, g4, lg⟩ := cells5 HU.out.out
        obtain ⟨z0, z1, z2, z3, z4, lr⟩ := cells5 HR.out
        have fr := HR.out.frozen
        clear hmm
        by_cases hlt : k < n
        · have hk10' : k = 10 := by omega
          subst hk10'
          clear hgo
          go_wp2
          obtain ⟨A4, c4, e4, h5, h6⟩ := HD.out
          exact retDf Tryz.results19 rfl rfl HP.out ⟨A4, c4, by rw [e4]; rfl, h5, h6⟩
        · clear hgo
          go_wp2
          obtain ⟨A4, c4, e4, h5, h6⟩ := HD.out
          exact retDf Tryz.results19 rfl rfl HP.out ⟨A4, c4, by rw [e4]; rfl, h5, h6⟩
end Go.Proofs.YtoddfaoifnkhlaaGreatDoor
