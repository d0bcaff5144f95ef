/-
  The chapter's examples.
-/
import Derived.Test.YtlblkoijkaaciaaRef4
import Derived.Test.YtlblkoijkaaciaaRunes
import Derived.Test.YtlblkoijkaaciaaValid
import Derived.Lib.SlBytesConst
namespace Go.Proofs.Ytlblkoijkaaciaa
open Go.ChangeShapes Go.WideShapes Go.ChangeAt Go.RowKit
set_option linter.unusedVariables false

theorem Own.form2 {e : TypeId} {k : IntKind} {B : Nat} {w wr : World} {v : Value} {bs : List Int} (h : Own e k B w wr v bs) :
    ∃ A cap, v = .slice A bs.length cap ∧ Ints k wr A bs ∧ bs.length ≤ cap ∧ (A = none → cap = 0) ∧ cap ≤ maxLen := by
  rcases h.own.2 with ⟨rfl, h0⟩ | ⟨g, cap, cur, rfl, _, _, hc, hm, _, _⟩
  · have : bs = [] := List.eq_nil_of_length_eq_zero h0
    subst this
    exact ⟨none, 0, rfl, .nil, Nat.le_refl _, fun _ => rfl, Nat.zero_le _⟩
  · refine ⟨_, cap, rfl, .inr ⟨g, 0, rfl, fun i hi => ?_⟩, hc, (fun h => by cases h), hm⟩
    rw [Nat.zero_add, h.own.cellAt i (by omega)]
    simp [List.getElem?_eq_getElem hi]
theorem Ints.newF (k : IntKind) (w : World) (t : TypeId) (fz : Nat × Nat) (zs : List Int) : Ints k (w.alloc (.cells (zs.map (Value.int k)).toArray t fz)) (some ⟨w.heap.size, 0, none⟩) zs := by
  refine .inr ⟨_, _, rfl, fun i hi => ?_⟩
  rw [Nat.zero_add, cell_of_row _ w.heap.size i _ t fz (heap_alloc_new w _)]
  simp [List.getElem?_eq_getElem hi]
theorem rn_sc {l : List Int} (h : ∀ r ∈ l, isSc r = true) : Rn l := fun x hx => by have := (isSc_iff x).1 (h x hx); omega
theorem rn_runes (b : List Int) (hb : Byte b) : Rn (runes b) := rn_sc (runes_sc b hb)

theorem known1 : runes [97, 195, 169] = [97, 233] := by
  rw [runes_step (by decide), show first [97, 195, 169] = (97, 1) by decide]
  show 97 :: runes [195, 169] = _
  rw [runes_step (by decide), show first [195, 169] = (233, 2) by decide]
  show 97 :: 233 :: runes [] = _
  rw [runes_nil]
theorem known2 : runes [226, 130, 65] = [65533, 65] := by
  rw [runes_step (by decide), show first [226, 130, 65] = (65533, 2) by decide]
  show 65533 :: runes [65] = _
  rw [runes_step (by decide), show first [65] = (65, 1) by decide]
  show 65533 :: 65 :: runes [] = _
  rw [runes_nil]
theorem known3 : runes [237, 160, 128] = [65533, 65533, 65533] := by
  rw [runes_step (by decide), show first [237, 160, 128] = (65533, 1) by decide]
  show 65533 :: runes [160, 128] = _
  rw [runes_step (by decide), show first [160, 128] = (65533, 1) by decide]
  show 65533 :: 65533 :: runes [128] = _
  rw [runes_step (by decide), show first [128] = (65533, 1) by decide]
  show 65533 :: 65533 :: 65533 :: runes [] = _
  rw [runes_nil]

set_option maxHeartbeats 1000000 in
theorem known_any (w : World) : Calls Try.prog 14 #[] w (Said true w) := by
  have kc := Lib.run_convert_bytes_const (P := Try.prog) w 23 5 #[.int .u8 97, .int .u8 195, .int .u8 169] 3 3 Try.underlying23 Try.underlying5
  go_enter Try.func14, Try.ntmps14
  go_wp2_with fail
  refine (runes_any _ 3 3 [97, 195, 169] _ (Ints.newF .u8 w 5 _ [97, 195, 169]) rfl (by omega) (fun h => by cases h) (by unfold maxLen; omega) (by omega) (by unfold Byte; decide)).mono ?_
  rintro e w1 ⟨v, rfl, hv⟩
  rw [known1] at hv
  obtain ⟨A1, c1, rfl, hi1, _, _⟩ := hv.form
  have hb1 : Below w.heap.size w w1 := ((Below.refl _ _).alloc (Nat.le_refl _) _).trans (hv.bel.mono (by simp))
  clear hv
  go_wp2_with fail
  refine (same_yes _ _ 2 _ _ [97, 233] _ (hi1.alloc _) (Ints.new .i64 w1 3 [97, 233]) rfl (by omega) (by unfold Rn; decide)).mono ?_
  rintro e w2 ⟨rfl, hb2⟩
  replace hb2 : Below w.heap.size w w2 := (hb1.alloc hb1.size _).trans (hb2.mono (by have := hb1.size; simp; omega))
  clear hi1 hb1
  go_wp2_with fail
  refine (runes_any _ 3 3 [226, 130, 65] _ (Ints.new .u8 w2 5 [226, 130, 65]) rfl (by omega) (fun h => by cases h) (by unfold maxLen; omega) (by omega) (by unfold Byte; decide)).mono ?_
  rintro e w3 ⟨v, rfl, hv⟩
  rw [known2] at hv
  obtain ⟨A3, c3, rfl, hi3, _, _⟩ := hv.form
  have hb3 : Below w.heap.size w w3 := (hb2.alloc hb2.size _).trans (hv.bel.mono (by have := hb2.size; simp; omega))
  clear hv hb2
  go_wp2_with fail
  refine (same_yes _ _ 2 _ _ [65533, 65] _ (hi3.alloc _) (Ints.new .i64 w3 3 [65533, 65]) rfl (by omega) (by unfold Rn; decide)).mono ?_
  rintro e w4 ⟨rfl, hb4⟩
  replace hb4 : Below w.heap.size w w4 := (hb3.alloc hb3.size _).trans (hb4.mono (by have := hb3.size; simp; omega))
  clear hi3 hb3
  go_wp2_with fail
  refine (runes_any _ 3 3 [237, 160, 128] _ (Ints.new .u8 w4 5 [237, 160, 128]) rfl (by omega) (fun h => by cases h) (by unfold maxLen; omega) (by omega) (by unfold Byte; decide)).mono ?_
  rintro e w5 ⟨v, rfl, hv⟩
  rw [known3] at hv
  obtain ⟨A5, c5, rfl, hi5, _, _⟩ := hv.form
  have hb5 : Below w.heap.size w w5 := (hb4.alloc hb4.size _).trans (hv.bel.mono (by have := hb4.size; simp; omega))
  clear hv hb4
  go_wp2_with fail
  refine (same_yes _ _ 3 _ _ [65533, 65533, 65533] _ (hi5.alloc _) (Ints.new .i64 w5 3 [65533, 65533, 65533]) rfl (by omega) (by unfold Rn; decide)).mono ?_
  rintro e w6 ⟨rfl, hb6⟩
  replace hb6 : Below w.heap.size w w6 := (hb5.alloc hb5.size _).trans (hb6.mono (by have := hb5.size; simp; omega))
  go_wp2
  go_ret
  exact ⟨rfl, hb6⟩
end Go.Proofs.Ytlblkoijkaaciaa
