/-
  Contract: the chapter's example holds.
-/
import Derived.Test.YtoddfaoifnkhlaaGreatDoorDOf
import Derived.Test.YtoddfaoifnkhlaaGreatDoorB12
import Derived.Test.YtoddfaoifnkhlaaGreatDoorB10
namespace Go.Proofs.YtoddfaoifnkhlaaGreatDoor
set_option maxRecDepth 100000
open Go.ChangeShapes Go.WideShapes Go.ChangeAt Go.RowKit
set_option linter.unusedVariables false

def kg0 : Gd := newG 1 4
def kg1 : Gd := putG kg0 0 0 ⟨97, 0, 0, 1, ⟨0, 0, 0⟩⟩
def kg2 : Gd := putG kg1 0 1 ⟨98, 0, 0, 1, ⟨0, 0, 0⟩⟩
def kg3 : Gd := moveG kg2 0 2 4
def kdf : Df := ⟨1, 4, 0, 2, [⟨0, 0, [⟨97, 0, 0, 1, ⟨0, 0, 0⟩⟩, ⟨98, 0, 0, 1, ⟨0, 0, 0⟩⟩]⟩]⟩
theorem kdf_is : ofD kg0 kg3 1 4 = kdf := by decide +kernel
theorem kok0 : GOk kg0 1 4 := GOk.new (by omega) (by omega) (by omega) (by omega)
theorem kcel (r : Int) (h : R32 r) : CelB ⟨r, 0, 0, 1, ⟨0, 0, 0⟩⟩ := ⟨h, by show R32 0; unfold R32; omega, by show R32 0; unfold R32; omega, by show 1 < 256; omega⟩
theorem kok3 : GOk kg3 1 4 := ((kok0.put 0 0 _ (kcel 97 (by unfold R32; omega))).put 0 1 _ (kcel 98 (by unfold R32; omega))).move 0 2
theorem kd_new (w : World) : Calls Tryz.prog 33 #[.int .i64 1, .int .i64 4] w (GaveG2 1 4 kg0 w) := gnew_yes 1 4 (by omega) (by omega) (by omega) (by omega) w
theorem kd_copy {w : World} {G L M : Nat} (h : Grd w G L M 1 4 kg0) : Calls Tryz.prog 23 #[.pointer (some ⟨G, 0, none⟩)] w (GaveG 1 4 kg0 w) := copy_any h (by omega) (by omega) (by omega) (by omega)
theorem kd_put1 {w : World} {G L M : Nat} (h : Grd w G L M 1 4 kg0) (hS : Spans w) : Calls Tryz.prog 35 #[.pointer (some ⟨G, 0, none⟩), .int .i64 0, .int .i64 0, .agg #[.int .i32 97, .int .i32 0, .int .i32 0, .int .u8 (1 : Int), .int .u8 (0 : Int), .int .u8 (0 : Int), .int .u8 (0 : Int)]] w fun e w' => (∃ b, e = .returned (.bool b)) ∧ Grd w' G L M 1 4 kg1 ∧ Trn G L M w w' :=
  (gput_any h (by omega) hS 0 0 97 0 0 1 0 0 0 (by omega) (by omega)).mono fun e w' h => ⟨⟨_, h.1⟩, h.2⟩
theorem kd_put2 {w : World} {G L M : Nat} (h : Grd w G L M 1 4 kg1) (hS : Spans w) : Calls Tryz.prog 35 #[.pointer (some ⟨G, 0, none⟩), .int .i64 0, .int .i64 1, .agg #[.int .i32 98, .int .i32 0, .int .i32 0, .int .u8 (1 : Int), .int .u8 (0 : Int), .int .u8 (0 : Int), .int .u8 (0 : Int)]] w fun e w' => (∃ b, e = .returned (.bool b)) ∧ Grd w' G L M 1 4 kg2 ∧ Trn G L M w w' :=
  (gput_any h (by omega) hS 0 1 98 0 0 1 0 0 0 (by omega) (by omega)).mono fun e w' h => ⟨⟨_, h.1⟩, h.2⟩
theorem kd_move {w : World} {G L M : Nat} (h : Grd w G L M 1 4 kg2) : Calls Tryz.prog 29 #[.pointer (some ⟨G, 0, none⟩), .int .i64 0, .int .i64 2] w fun e w' => e = .returned (.tuple #[]) ∧ Grd w' G L M 1 4 kg3 ∧ Only G w w' := move_any h (by omega) (by omega) (by omega) (by omega) 0 2
theorem kd_of {w : World} {G L M G2 L2 M2 : Nat} (ha : Grd w G L M 1 4 kg0) (hb : Grd w G2 L2 M2 1 4 kg3) : Calls Tryz.prog 10 #[.pointer (some ⟨G, 0, none⟩), .pointer (some ⟨G2, 0, none⟩)] w fun e w' => ∃ A c, e = .returned (.agg #[.int .i64 1, .int .i64 4, .int .i64 0, .int .i64 2, .slice A 1 c]) ∧ DfOk w.heap.size 47 65 .i32 w' kdf A c ∧ Below w.heap.size w w' := by
  refine (dfof_any ha kok0 hb kok3).mono ?_
  rw [kdf_is]
  rintro e w' ⟨A, c, he, h1, h2⟩
  exact ⟨A, c, he, h1, h2⟩
set_option maxHeartbeats 2000000 in
theorem dknown_any (w : World) (hS : Spans w) : Calls Tryz.prog 8 #[] w (Said true w) := by
  go_enter Tryz.func8, Tryz.ntmps8
  go_wp2_with fail
  refine (kd_new w).mono ?_
  rintro e w1 ⟨G, L, M, rfl, hg, hb, n1, n2, n3⟩
  have HG1 := hide hg
  have HS1 := hide (hS.below hb)
  have HB1 := hide hb
  clear hg hb hS
  go_wp2_with fail
  refine (kd_copy HG1.out).mono ?_
  rintro e w2 ⟨G2, L2, M2, rfl, hg, hb, m1, m2, m3⟩
  have HH2 := hide hg
  have HG2 := hide (HG1.out.later hb)
  have HS2 := hide (HS1.out.below hb)
  have HB2 := hide (HB1.out.trans (hb.mono HB1.out.size))
  have lG := HG1.out.ltG
  have lL := HG1.out.ltL
  have lM := HG1.out.ltM
  have HN2 : Hid ((G ≠ G2 ∧ G ≠ L2 ∧ G ≠ M2) ∧ (L ≠ G2 ∧ L ≠ L2 ∧ L ≠ M2) ∧ (M ≠ G2 ∧ M ≠ L2 ∧ M ≠ M2)) := by unfold Hid; omega
  have HL2 : Hid (w.heap.size ≤ G2 ∧ w.heap.size ≤ L2 ∧ w.heap.size ≤ M2) := by have := HB1.out.size; unfold Hid; omega
  clear hg hb n1 n2 n3 m1 m2 m3 lG lL lM
  go_wp2_with fail
  refine (kd_put1 HH2.out HS2.out).mono ?_
  rintro e w3 ⟨⟨b3, rfl⟩, hg, ht⟩
  have HH3 := hide hg
  have HG3 := hide (HG2.out.far ht HN2.out.1 HN2.out.2.1 HN2.out.2.2)
  have HS3 := hide (HS2.out.turn HH2.out (by decide) ht)
  have HB3 := hide (ht.below HB2.out HB2.out.size HL2.out.1 HL2.out.2.1 HL2.out.2.2)
  clear hg ht
  go_wp2_with fail
  refine (kd_put2 HH3.out HS3.out).mono ?_
  rintro e w4 ⟨⟨b4, rfl⟩, hg, ht⟩
  have HH4 := hide hg
  have HG4 := hide (HG3.out.far ht HN2.out.1 HN2.out.2.1 HN2.out.2.2)
  have HB4 := hide (ht.below HB3.out HB3.out.size HL2.out.1 HL2.out.2.1 HL2.out.2.2)
  clear hg ht
  go_wp2_with fail
  refine (kd_move HH4.out).mono ?_
  rintro e w5 ⟨rfl, hg, ho⟩
  have HH5 := hide hg
  have HG5 := hide (HG4.out.far (Trn.of_onlyG (L := L2) (M := M2) ho) HN2.out.1 HN2.out.2.1 HN2.out.2.2)
  have HB5 := hide (ho.below HB4.out HB4.out.size HL2.out.1)
  clear hg ho
  go_wp2_with fail
  refine (kd_of HG5.out HH5.out).mono ?_
  rintro e w6 ⟨A, c, rfl, hd, hb⟩
  have HB6 := hide (HB5.out.trans (hb.mono HB5.out.size))
  obtain ⟨b, off, A1, c1, rfl, lb, x0, x1, x2, xi, -⟩ := hd.sps.at (i := 0) (by decide)
  have hs0 : sAt kdf.ss 0 = ⟨0, 0, [⟨97, 0, 0, 1, ⟨0, 0, 0⟩⟩, ⟨98, 0, 0, 1, ⟨0, 0, 0⟩⟩]⟩ := rfl
  rw [hs0] at x0 x1 x2 xi
  obtain ⟨b1, o1, rfl, lb1, -⟩ := xi.cels.at (i := 1) (by decide)
  obtain ⟨u0, u1, u2, u3, u4, u5, u6, lu⟩ := xi.cels.sevenC 1 (by decide) (show cAt [⟨97, 0, 0, 1, ⟨0, 0, 0⟩⟩, ⟨98, 0, 0, 1, ⟨0, 0, 0⟩⟩] 1 = ⟨98, 0, 0, 1, ⟨0, 0, 0⟩⟩ from rfl)
  simp only [Nat.zero_mul, Nat.one_mul, Nat.add_zero, List.length_cons, List.length_nil, Nat.zero_add, Nat.reduceAdd] at x0 x1 x2 u0 u1 u2 u3 u4 u5 u6
  have HB7 : Hid (Below w.heap.size w (w6.alloc (.cells #[.int .i64 1, .int .i64 4, .int .i64 0, .int .i64 2, .slice (some ⟨b, off, none⟩) 1 c] 33))) := HB6.out.alloc HB6.out.size _
  clear hd hb xi hs0
  go_wp2
  go_ret
  exact ⟨rfl, HB7.out⟩
end Go.Proofs.YtoddfaoifnkhlaaGreatDoor
