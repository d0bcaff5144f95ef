/-
  Contracts: the document's grid with another line, with a cell put, a mark more, blanks, a line laid.
-/
import Derived.Test.YtiifeniijcnahaaGreatDoorGRef
import Derived.Test.YtiifeniijcnahaaGreatDoorLnd
namespace Go.Proofs.YtiifeniijcnahaaGreatDoor
set_option maxRecDepth 100000
open Go.ChangeShapes Go.WideShapes Go.ChangeAt Go.RowKit
set_option linter.unusedVariables false

theorem Cels.addr {k : IntKind} {w : World} {A : Option Addr} {z : List Cel} (h : Cels k w A z) (h1 : 1 ≤ z.length) : A = none → False := by
  rintro rfl
  rcases h with rfl | ⟨b, off, e, _⟩
  · simp at h1
  · cases e
set_option maxHeartbeats 4000000 in
theorem with7_any (A : Option Addr) (R cap row col : Nat) (ls : List (List Cel)) (w : World) (h : Lns w A ls) (hR : ls.length = R) (hR2 : R ≤ 512) (r : Nat) (hr : r < R) (Al : Option Addr) (nl cl : Nat) (zs : List Cel) (hz : Cels .i64 w Al zs) (hn : zs.length = nl) (h1 : 1 ≤ nl) (hl : nl ≤ 1000000) :
    Calls Tryz.prog 76 #[.agg #[.slice A R cap, .int .i64 (row : Int), .int .i64 (col : Int)], .int .i64 (r : Int), .slice Al nl cl] w (GaveD R ⟨ls.set r zs, row, col⟩ w) := by
  obtain ⟨W0, hW0⟩ : ∃ W0, (w.alloc (.cells #[.slice A R cap, .int .i64 (row : Int), .int .i64 (col : Int)] 32)).alloc (.cells #[.slice none 0 0, .int .i64 0, .int .i64 0] 32) = W0 := ⟨_, rfl⟩
  have HB0 : Hid (Below w.heap.size w W0) := by unfold Hid; rw [← hW0]; exact two_new w _ _ [.slice A R cap, .int .i64 (row : Int), .int .i64 (col : Int)] [.slice none 0 0, .int .i64 0, .int .i64 0]
  have HP0 : Hid (Whole W0 w.heap.size 32 [.slice A R cap, .int .i64 (row : Int), .int .i64 (col : Int)]) := by unfold Hid; rw [← hW0]; exact (Whole.new w 32 [.slice A R cap, .int .i64 (row : Int), .int .i64 (col : Int)]).alloc _
  have HQ0 : Hid (Whole W0 (w.heap.size + 1) 32 [.slice none 0 0, .int .i64 0, .int .i64 0]) := by unfold Hid; rw [← hW0]; exact whole_snd w _ 32 [.slice none 0 0, .int .i64 0, .int .i64 0]
  obtain ⟨F, hF⟩ : ∃ F : Nat → List Cel, (fun i => if i = r then zs else lAt ls i) = F := ⟨_, rfl⟩
  have HF1 : Hid (F r = zs) := by unfold Hid; rw [← hF]; simp
  have HF2 : Hid (∀ i, i ≠ r → F i = lAt ls i) := by unfold Hid; intro i hi; rw [← hF]; simp [hi]
  have HFE : Hid (gtab R F = ls.set r zs) := by unfold Hid; rw [← hF, set_gtab, hR]
  have HL := hide h
  have HZ := hide hz
  have HN := hide hn
  have HR := hide hR
  have HAl : Hid (Al = none → cl = 0) := by unfold Hid; intro e; exact absurd e (fun q => hz.addr (by omega) q)
  have HW0 := hide hW0
  clear hW0 h hz hn hF hR
  go_enter Tryz.func76, Tryz.ntmps76
  go_wp2
  rw [HW0.out]
  go_loopw [7, 8] (fun v i wr => ∃ (k : Nat), k ≤ R ∧ i = .int .i64 k ∧ RwsC w.heap.size w wr v (gtab k F) ∧ Whole wr w.heap.size 32 [.slice A R cap, .int .i64 (row : Int), .int .i64 (col : Int)] ∧ Whole wr (w.heap.size + 1) 32 [.slice none 0 0, .int .i64 0, .int .i64 0]) (fun _ i _ => R - (intOf i).toNat)
  case atStart => exact ⟨0, Nat.zero_le _, rfl, RwsC.from0 HB0.out.size HB0.out, HP0.out, HQ0.out⟩
  case round =>
    obtain ⟨k, hk, rfl, hv, hp, hq⟩ := hrel
    have HV := hide hv
    have HQ := hide hq
    have HP := hide hp
    clear hv hq hp
    obtain ⟨b0, b1, b2, lb⟩ := cells3 HP.out
    by_cases hlt : k < R
    · by_cases hkr : k = r
      · have e1 : ((k : Int) == (r : Int)) = true := by simp [hkr]
        have HKR := hide hkr
        clear hkr
        go_wp2_with (at_builtin; refine stopw ?_)
        unfold Hid
        refine wpList_catC elemLC rfl _ _ rfl rfl rfl (OwnC.empty wr 52 .i64) ((HZ.out.below HV.out.bel).alloc _) HN.out HAl.out (by simp; omega) (by omega) ?_
        intro x w1 hx
        simp only [List.nil_append] at hx
        have HX := hide hx.rowOk
        have HB1 := hide hx.bel
        obtain ⟨Ax, cx, rfl, -⟩ := hx.rowOk
        clear hx
        have HV1 := hide (HV.out.later HB1.out)
        have HP1 := hide (HP.out.later HB1.out)
        have HQ1 := hide (HQ.out.later HB1.out)
        clear b0 b1 b2 lb
        go_wp2_with (at_builtin; refine stopw ?_)
        unfold Hid
        refine wpList_pushL rfl _ _ rfl rfl rfl HV1.out HX.out (by rw [gtab_len]; omega) ?_
        intro v2 w2 hown hoth
        have HV2 : Hid (RwsC w.heap.size w w2 v2 (gtab (k + 1) F)) := by unfold Hid; rw [gtab_snoc, HKR.out, HF1.out, ← HKR.out]; exact hown
        have HQ2 := hide (hoth _ _ _ (by decide) HQ1.out)
        have HP2 := hide (hoth _ _ _ (by decide) HP1.out)
        clear hown hoth
        go_wp2
        go_roundw
        case rel => exact ⟨k + 1, by omega, by go_num, HV2.out, HP2.out, HQ2.out⟩
        case measure => simp [intOf]; omega
      · have e1 : ((k : Int) == (r : Int)) = false := by simp; omega
        obtain ⟨b, A', c', rfl, lb', hc, hrow, -, -⟩ := (HL.out.below HV.out.bel).at (i := k) (by rw [HR.out]; exact hlt)
        have HX := hide hrow
        have HFk := hide (HF2.out k hkr)
        clear hrow hkr
        go_wp2_with (at_builtin; refine stopw ?_)
        unfold Hid
        refine wpList_pushL rfl _ _ rfl rfl rfl HV.out HX.out (by rw [gtab_len]; omega) ?_
        intro v2 w2 hown hoth
        have HV2 : Hid (RwsC w.heap.size w w2 v2 (gtab (k + 1) F)) := by unfold Hid; rw [gtab_snoc, HFk.out]; exact hown
        have HQ2 := hide (hoth _ _ _ (by decide) HQ.out)
        have HP2 := hide (hoth _ _ _ (by decide) HP.out)
        clear hown hoth b0 b1 b2 lb hc lb'
        go_wp2
        go_roundw
        case rel => exact ⟨k + 1, by omega, by go_num, HV2.out, HP2.out, HQ2.out⟩
        case measure => simp [intOf]; omega
    · obtain rfl : k = R := by omega
      obtain ⟨d0, d1, d2, ld⟩ := cells3 HQ.out
      have hz := HQ.out.frozen
      obtain ⟨A3, c3, rfl, -, -, -, hL⟩ := HV.out.form
      rw [gtab_len] at HV ⊢
      have HL3 := hide hL
      clear hL
      go_wp2
      refine retG Tryz.results76 rfl rfl (put3 HQ.out _ _ _) ⟨A3, c3, rfl, ?_, below_put3 HV.out.bel (by omega) _ _ _⟩
      rw [HFE.out] at HL3
      exact HL3.out.put3 HQ.out (by decide) (by decide) _ _ _
end Go.Proofs.YtiifeniijcnahaaGreatDoor
