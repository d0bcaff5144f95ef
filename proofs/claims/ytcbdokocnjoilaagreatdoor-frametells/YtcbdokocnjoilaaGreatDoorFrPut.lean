/-
  Contract: the closure that appends one number to what is told.
-/
import Derived.Test.YtcbdokocnjoilaaGreatDoorFrBase
import Derived.Test.YtcbdokocnjoilaaGreatDoorH19
namespace Go.Proofs.YtcbdokocnjoilaaGreatDoor
set_option maxRecDepth 100000
open Go.ChangeShapes Go.WideShapes Go.ChangeAt Go.RowKit
set_option linter.unusedVariables false

set_option maxHeartbeats 2000000 in
theorem frput_any (B p N : Nat) (bs : List Int) (w : World) (h : Pt B p w bs) (hN : N < 18446744073709551616) (hl : bs.length ≤ 500000) :
    Calls Tryz.prog 21 #[.int .u64 (N : Int), .pointer (some ⟨p, 0, none⟩)] w fun e w' => e = .returned (.tuple #[]) ∧ Pt B p w' (bs ++ enc N) ∧ Ap B p w w' := by
  have HBP : Hid (B ≤ p) := h.ge
  have hel := (enc_len N).2
  obtain ⟨v, hv, ho⟩ := h.ex
  have HV := hide hv
  have HO := hide ho
  have hv0 : Whole w.drew p 36 [v] := hv.drew
  have HV0 := hide hv0
  clear hv ho h
  go_enter Tryz.func21, Tryz.ntmps21
  go_wp2
  refine rgL (fun w' => w'.cell? ⟨p, 0, none⟩ = some v) 5 [(0, 1), (0, 0), (1, 2), (1, 3), (1, 4), (3, 5)] (hv0.cell 0) ?_
  refine stL (h := ?_)
  refine stL (hy := fun w hS => by have hS := hS; go_simp <;> with_reducible rfl) (h := ?_)
  refine alL fun K hK => ?_
  go_wp2
  refine hK.out _ _ ((HV0.out.alloc _).cell 0) ?_
  clear hK K
  refine alL fun K hK => ?_
  go_wp2_with fail
  refine (nu_bytes_any _ _ _ [(N : Int)] _ (Ints.new .u64 w.drew 22 [(N : Int)]) rfl (by simp) (by simp; omega)).mono ?_
  rintro e w2 ⟨x2, rfl, hx⟩
  obtain ⟨A2, c2, rfl, i2, n2, z2, -⟩ := hx.form2
  rw [encAll_one, Int.toNat_natCast] at i2 n2 ⊢
  have hb2 : Below w.heap.size w w2 := (((Below.refl w.heap.size w).drewN 1).alloc (Nat.le_refl _) (.cells #[.int .u64 (N : Int)] 22)).trans (hx.bel.mono (by simp))
  have HV2 := hide (HV.out.later hb2)
  have HO2 := hide ((HO.out.later hb2).now)
  have HI2 := hide i2
  have HZ2 := hide z2
  have HB2 := hide hb2
  clear hx i2 z2 hb2
  go_wp2
  refine hK.out _ _ (HV2.out.cell 0) ?_
  clear hK K
  refine alL fun K hK => ?_
  refine wpList_catAt elemBytes rfl _ _ rfl rfl rfl HO2.out HI2.out rfl HZ2.out (by omega) (by omega) ?_
  intro v3 w3 hown st hat
  have hbl3 : Below B w2 w3 := hown.bel
  have HA3 := hide (Ap.row (p := p) HO2.out hbl3 st)
  have HV3 := hide (Others.of HO2.out st p 36 _ (by decide) HV2.out)
  obtain ⟨A3, c3, hv3, -, -, -⟩ := hown.form
  obtain ⟨L3, hL3⟩ : ∃ L3, (bs ++ enc N).length = L3 := ⟨_, rfl⟩
  rw [hL3] at hv3
  subst hv3
  have HO3 := hide hown.now
  clear hown st hat hbl3
  go_wp2
  refine hK.out _ _ (HV3.out.cell 0) ?_
  clear hK K
  have e1 : w3.cell? ⟨p, 0, none⟩ = some v := HV3.out.cell 0
  have z1 := HV3.out.frozen 0
  have l3 := HV3.out.lt
  refine laL fun K hK => ?_
  go_wp2
  refine hK.out _ _ ?_
  clear hK K
  refine chainL_nil ?_
  have hst : Stay5 w3 (w3.setCell ⟨p, 0, none⟩ (.slice A3 L3 c3)) := Stay5.put HV3.out
  have HP4 : Hid (Pt B p (w3.setCell ⟨p, 0, none⟩ (.slice A3 L3 c3)) (bs ++ enc N)) := ⟨⟨_, HV3.out.put 0 _, hst.own HO3.out (by simp [World.setCell])⟩, HBP.out⟩
  have HX4 : Hid (Ap B p w (w3.setCell ⟨p, 0, none⟩ (.slice A3 L3 c3))) := ((Ap.of_below HB2.out HO.out.le).trans HA3.out).trans (Ap.put HBP.out)
  clear hst hv0
  go_wp2
  go_end0
  exact ⟨rfl, HP4.out, HX4.out⟩
end Go.Proofs.YtcbdokocnjoilaaGreatDoor
