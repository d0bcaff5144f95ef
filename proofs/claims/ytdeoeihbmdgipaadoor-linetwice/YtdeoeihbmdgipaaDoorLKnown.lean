/-
  Contracts: is a line the document's (the law's Same); the chapter's example.
-/
import Derived.Test.YtdeoeihbmdgipaaDoorLRef4
import Derived.Test.YtdeoeihbmdgipaaDoorLSame
import Derived.Test.YtdeoeihbmdgipaaDoorLPut
namespace Go.Proofs.YtdeoeihbmdgipaaDoor
open Go.ChangeShapes Go.WideShapes Go.ChangeAt Go.RowKit
set_option linter.unusedVariables false

set_option maxRecDepth 100000 in
set_option maxHeartbeats 1000000 in
theorem lsame_any (A C : Option Addr) (n c m d : Nat) (xs ys : List Cel) (w : World) (ha : Cels .i32 w A xs) (hb : Cels .i64 w C ys) (hn : xs.length = n) (hm : ys.length = m) (hl : n ≤ 1000000) (hlb : LB xs) :
    Calls Tryd.prog 15 #[.slice A n c, .slice C m d] w (Said (decide (xs = ys)) w) := by
  have HA := hide ha
  have HC := hide hb
  have HN := hide hn
  have HM := hide hm
  have HL := hide hlb
  clear ha hb hn hm hlb
  go_enter Tryd.func15, Tryd.ntmps15
  go_wp2_with fail
  refine (lineof_any A n c xs w HA.out HN.out hl HL.out).mono ?_
  rintro e w1 ⟨v1, rfl, ho1⟩
  obtain ⟨A1, c1, rfl, hc1, -⟩ := ho1.form
  rw [HN.out]
  have HC1 := hide hc1
  have HB1 := hide ho1.bel
  clear ho1 hc1
  go_wp2_with fail
  refine (rsame6_any A1 C n c1 m d xs ys w1 HC1.out (HC.out.below HB1.out) HN.out HM.out hl).mono ?_
  rintro e w2 ⟨rfl, hb2⟩
  have HB2 := hide (HB1.out.trans (hb2.mono HB1.out.size))
  clear hb2
  go_wp2
  go_ret
  exact ⟨rfl, HB2.out⟩

def exB : Cel := ⟨32, 0, 0, 1, ⟨0, 0, 0⟩⟩
def exL0 : List Cel := [⟨32, 0, 0, 1, ⟨0, 0, 0⟩⟩, ⟨32, 0, 0, 1, ⟨0, 0, 0⟩⟩, ⟨32, 0, 0, 1, ⟨0, 0, 0⟩⟩, ⟨32, 0, 0, 1, ⟨0, 0, 0⟩⟩]
def exL1 : List Cel := [⟨32, 0, 0, 1, ⟨0, 0, 0⟩⟩, ⟨12354, 0, 0, 2, ⟨0, 0, 0⟩⟩, ⟨0, 0, 0, 0, ⟨0, 0, 0⟩⟩, ⟨32, 0, 0, 1, ⟨0, 0, 0⟩⟩]
def exL2 : List Cel := [⟨32, 0, 0, 1, ⟨0, 0, 0⟩⟩, ⟨32, 0, 0, 1, ⟨0, 0, 0⟩⟩, ⟨97, 0, 0, 1, ⟨0, 0, 0⟩⟩, ⟨32, 0, 0, 1, ⟨0, 0, 0⟩⟩]
theorem ex_new : newC 4 = exL0 := by decide +kernel
theorem ex_put1 : putC exL0 1 ⟨12354, 0, 0, 2, ⟨0, 0, 0⟩⟩ = exL1 := by decide +kernel
theorem ex_ok1 : putOk exL0 1 ⟨12354, 0, 0, 2, ⟨0, 0, 0⟩⟩ = true := by decide +kernel
theorem ex_put2 : putC exL1 2 ⟨97, 0, 0, 1, ⟨0, 0, 0⟩⟩ = exL2 := by decide +kernel
theorem ex_ok2 : putOk exL1 2 ⟨97, 0, 0, 1, ⟨0, 0, 0⟩⟩ = true := by decide +kernel
theorem ex_cels1 (w : World) : Cels .i32 (w.alloc (.cells #[.int .i32 32, .int .i32 0, .int .i32 0, .int .u8 1, .int .u8 0, .int .u8 0, .int .u8 0, .int .i32 12354, .int .i32 0, .int .i32 0, .int .u8 2, .int .u8 0, .int .u8 0, .int .u8 0, .int .i32 0, .int .i32 0, .int .i32 0, .int .u8 0, .int .u8 0, .int .u8 0, .int .u8 0, .int .i32 32, .int .i32 0, .int .i32 0, .int .u8 1, .int .u8 0, .int .u8 0, .int .u8 0] 27)) (some ⟨w.heap.size, 0, none⟩) exL1 := (Whole.new w 27 (flatC .i32 exL1)).cels
theorem ex_cels2 (w : World) : Cels .i32 (w.alloc (.cells #[.int .i32 32, .int .i32 0, .int .i32 0, .int .u8 1, .int .u8 0, .int .u8 0, .int .u8 0, .int .i32 32, .int .i32 0, .int .i32 0, .int .u8 1, .int .u8 0, .int .u8 0, .int .u8 0, .int .i32 97, .int .i32 0, .int .i32 0, .int .u8 1, .int .u8 0, .int .u8 0, .int .u8 0, .int .i32 32, .int .i32 0, .int .i32 0, .int .u8 1, .int .u8 0, .int .u8 0, .int .u8 0] 27)) (some ⟨w.heap.size, 0, none⟩) exL2 := (Whole.new w 27 (flatC .i32 exL2)).cels
theorem new_ex (w : World) : Calls Tryd.prog 22 #[.int .i64 4] w fun e w' => ∃ g, e = .returned (.slice (some ⟨g, 0, none⟩) 4 4) ∧ Cels .i32 w' (some ⟨g, 0, none⟩) exL0 ∧ Below w.heap.size w w' := by
  refine (new_any 4 w).mono ?_
  rintro e w' ⟨g, rfl, -, hw, hb⟩
  rw [ex_new] at hw
  exact ⟨g, by rw [ex_new]; rfl, hw.cels, hb⟩
theorem put_ex1 (g : Nat) (w : World) (h : Cels .i32 w (some ⟨g, 0, none⟩) exL0) (hS : Spans w) : Calls Tryd.prog 9 #[.slice (some ⟨g, 0, none⟩) 4 4, .int .i64 1, .agg #[.int .i32 12354, .int .i32 0, .int .i32 0, .int .u8 (2 : Int), .int .u8 (0 : Int), .int .u8 (0 : Int), .int .u8 (0 : Int)]] w fun e w' => ∃ g', e = .returned (.tuple #[.slice (some ⟨g', 0, none⟩) 4 4, .bool true]) ∧ Cels .i32 w' (some ⟨g', 0, none⟩) exL1 ∧ Below w.heap.size w w' := by
  refine (put_any (some ⟨g, 0, none⟩) 4 4 1 12354 0 0 2 0 0 0 (by omega) exL0 w h rfl (by omega) hS (by omega)).mono ?_
  rintro e w' ⟨g', rfl, -, hw, hb⟩
  rw [ex_put1] at hw
  exact ⟨g', by rw [ex_put1, ex_ok1]; rfl, hw.cels, hb⟩
theorem put_ex2 (g : Nat) (w : World) (h : Cels .i32 w (some ⟨g, 0, none⟩) exL1) (hS : Spans w) : Calls Tryd.prog 9 #[.slice (some ⟨g, 0, none⟩) 4 4, .int .i64 2, .agg #[.int .i32 97, .int .i32 0, .int .i32 0, .int .u8 (1 : Int), .int .u8 (0 : Int), .int .u8 (0 : Int), .int .u8 (0 : Int)]] w fun e w' => ∃ g', e = .returned (.tuple #[.slice (some ⟨g', 0, none⟩) 4 4, .bool true]) ∧ Cels .i32 w' (some ⟨g', 0, none⟩) exL2 ∧ Below w.heap.size w w' := by
  refine (put_any (some ⟨g, 0, none⟩) 4 4 2 97 0 0 1 0 0 0 (by omega) exL1 w h rfl (by omega) hS (by omega)).mono ?_
  rintro e w' ⟨g', rfl, -, hw, hb⟩
  rw [ex_put2] at hw
  exact ⟨g', by rw [ex_put2, ex_ok2]; rfl, hw.cels, hb⟩
theorem same_ex (A C : Option Addr) (l : List Cel) (hl : l.length = 4) (w : World) (ha : Cels .i32 w A l) (hb : Cels .i32 w C l) : Calls Tryd.prog 26 #[.slice A 4 4, .slice C 4 4] w (Said true w) := by
  have := same6_any A C 4 4 4 4 l l w ha hb hl hl (by omega)
  simpa using this
set_option maxRecDepth 100000 in
set_option maxHeartbeats 4000000 in
theorem lknown_any (w : World) (hS : Spans w) : Calls Tryd.prog 14 #[] w (Said true w) := by
  have HS := hide hS
  clear hS
  go_enter Tryd.func14, Tryd.ntmps14
  go_wp2_with fail
  refine (cof_h _ HS.out).mono ?_
  rintro e w1 ⟨rfl, hb1⟩
  have HB1 := hide (hb1.alloc hb1.size (.cells #[.int .i32 12354, .int .i32 0, .int .i32 0, .int .u8 (2 : Int), .int .u8 (0 : Int), .int .u8 (0 : Int), .int .u8 (0 : Int)] 27))
  have HS1 := hide ((HS.out.below hb1).alloc (.cells #[.int .i32 12354, .int .i32 0, .int .i32 0, .int .u8 (2 : Int), .int .u8 (0 : Int), .int .u8 (0 : Int), .int .u8 (0 : Int)] 27))
  have HA1 := hide (Whole.new w1 27 [.int .i32 12354, .int .i32 0, .int .i32 0, .int .u8 (2 : Int), .int .u8 (0 : Int), .int .u8 (0 : Int), .int .u8 (0 : Int)])
  clear hb1
  go_wp2_with fail
  refine (cof_a _ HS1.out).mono ?_
  rintro e w2 ⟨rfl, hb2⟩
  have HB2 := hide ((HB1.out.trans (hb2.mono HB1.out.size)).alloc (HB1.out.trans (hb2.mono HB1.out.size)).size (.cells #[.int .i32 97, .int .i32 0, .int .i32 0, .int .u8 (1 : Int), .int .u8 (0 : Int), .int .u8 (0 : Int), .int .u8 (0 : Int)] 27))
  have HS2 := hide ((HS1.out.below hb2).alloc (.cells #[.int .i32 97, .int .i32 0, .int .i32 0, .int .u8 (1 : Int), .int .u8 (0 : Int), .int .u8 (0 : Int), .int .u8 (0 : Int)] 27))
  have HA2 := hide ((HA1.out.later hb2).alloc (.cells #[.int .i32 97, .int .i32 0, .int .i32 0, .int .u8 (1 : Int), .int .u8 (0 : Int), .int .u8 (0 : Int), .int .u8 (0 : Int)] 27))
  have HC2 := hide (Whole.new w2 27 [.int .i32 97, .int .i32 0, .int .i32 0, .int .u8 (1 : Int), .int .u8 (0 : Int), .int .u8 (0 : Int), .int .u8 (0 : Int)])
  clear hb2 HA1 HB1 HS1
  go_wp2_with fail
  refine (blank_v 0 0 0 _).mono ?_
  rintro e w3 ⟨rfl, hb3⟩
  obtain ⟨W, hW⟩ : ∃ W, w3.alloc (.cells #[.int .i32 32, .int .i32 0, .int .i32 0, .int .u8 (1 : Int), .int .u8 (0 : Int), .int .u8 (0 : Int), .int .u8 (0 : Int)] 27) = W := ⟨_, rfl⟩
  have HB : Hid (Below w.heap.size w W) := by unfold Hid; rw [← hW]; have q := HB2.out.trans (hb3.mono HB2.out.size); exact q.alloc q.size _
  have HSW : Hid (Spans W) := by unfold Hid; rw [← hW]; exact (HS2.out.below hb3).alloc _
  have HA : Hid (Whole W w1.heap.size 27 [.int .i32 12354, .int .i32 0, .int .i32 0, .int .u8 (2 : Int), .int .u8 (0 : Int), .int .u8 (0 : Int), .int .u8 (0 : Int)]) := by unfold Hid; rw [← hW]; exact (HA2.out.later hb3).alloc _
  have HC : Hid (Whole W w2.heap.size 27 [.int .i32 97, .int .i32 0, .int .i32 0, .int .u8 (1 : Int), .int .u8 (0 : Int), .int .u8 (0 : Int), .int .u8 (0 : Int)]) := by unfold Hid; rw [← hW]; exact (HC2.out.later hb3).alloc _
  have HE : Hid (Whole W w3.heap.size 27 [.int .i32 32, .int .i32 0, .int .i32 0, .int .u8 (1 : Int), .int .u8 (0 : Int), .int .u8 (0 : Int), .int .u8 (0 : Int)]) := by unfold Hid; rw [← hW]; exact Whole.new w3 27 [.int .i32 32, .int .i32 0, .int .i32 0, .int .u8 (1 : Int), .int .u8 (0 : Int), .int .u8 (0 : Int), .int .u8 (0 : Int)]
  have HW := hide hW
  clear hb3 HA2 HB2 HS2 HC2 hW
  go_wp2
  rw [HW.out]
  refine wp_region_chainH (fun w' => Below W.heap.size W w') [(true, 1), (false, 0), (false, 2), (false, 3), (true, 4), (true, 6), (false, 5), (false, 7)] (by kernel_rfl) (by kernel_rfl) (by kernel_rfl) (fun _ _ _ _ _ h => h) ?_ ?_
  · exact (Below.refl _ _).drewN 1
  refine chainH_take (v := ?_) (by simp only [List.getElem?_toArray, List.getElem?_cons_zero, List.getElem?_cons_succ]; rfl) (by rfl) (fun w hS => ?_) ?_
  rotate_left
  · obtain ⟨a0, a1, a2, a3, a4, a5, a6, -⟩ := cells7 (HA.out.later hS); go_simp <;> with_reducible rfl
  simp only [Act.put, List.setIfInBounds_toArray, List.set_cons_zero, List.set_cons_succ]
  refine chainH_alone (by simp only [List.getElem?_toArray, List.getElem?_cons_zero]; rfl) ?_
  intro K hK
  go_wp2_with fail
  refine (new_ex _).mono ?_
  rintro e k0 ⟨g0, rfl, hc0, hb⟩
  have Bk0 : Below W.heap.size W k0 := ((Below.refl _ _).drewN 1).trans hb
  have HK0 := hide hc0
  clear hb hc0
  go_wp2
  refine hK.out _ _ Bk0 ?_
  clear hK K
  refine chainH_alone (by simp only [List.getElem?_toArray, List.getElem?_cons_zero, List.getElem?_cons_succ]; rfl) ?_
  intro K hK
  go_wp2_with fail
  refine (put_ex1 g0 k0 HK0.out (HSW.out.below Bk0)).mono ?_
  rintro e k1 ⟨g1, rfl, hc1, hb⟩
  have Bk1 : Below W.heap.size W k1 := Bk0.trans (hb.mono Bk0.size)
  have HK1 := hide hc1
  clear hb hc1
  go_wp2
  refine hK.out _ _ Bk1 ?_
  clear hK K
  refine chainH_alone (by simp only [List.getElem?_toArray, List.getElem?_cons_zero, List.getElem?_cons_succ]; rfl) ?_
  intro K hK
  go_wp2
  refine hK.out _ _ Bk1 ?_
  clear hK K
  refine chainH_take (v := ?_) (by simp only [List.getElem?_toArray, List.getElem?_cons_zero, List.getElem?_cons_succ]; rfl) (by rfl) (fun w hS => ?_) ?_
  rotate_left
  · go_simp <;> with_reducible rfl
  simp only [Act.put, List.setIfInBounds_toArray, List.set_cons_zero, List.set_cons_succ]
  refine chainH_take (v := ?_) (by simp only [List.getElem?_toArray, List.getElem?_cons_zero, List.getElem?_cons_succ]; rfl) (by rfl) (fun w hS => ?_) ?_
  rotate_left
  · go_simp <;> with_reducible rfl
  simp only [Act.put, List.setIfInBounds_toArray, List.set_cons_zero, List.set_cons_succ]
  refine chainH_alone (by simp only [List.getElem?_toArray, List.getElem?_cons_zero, List.getElem?_cons_succ]; rfl) ?_
  intro K hK
  go_wp2
  refine hK.out _ _ Bk1 ?_
  clear hK K
  refine chainH_alone (by simp only [List.getElem?_toArray, List.getElem?_cons_zero, List.getElem?_cons_succ]; rfl) ?_
  intro K hK
  go_wp2
  refine hK.out _ _ Bk1 ?_
  clear hK K
  refine chainH_nil ?_
  have HBk1 := hide Bk1
  clear Bk0 Bk1
  obtain ⟨f0, f1, f2, f3, f4, f5, f6, -⟩ := cells7 (HC.out.later HBk1.out)
  go_wp2_with fail
  refine (put_ex2 g1 k1 HK1.out (HSW.out.below HBk1.out)).mono ?_
  rintro e k2 ⟨g2, rfl, hc2, hb⟩
  clear f0 f1 f2 f3 f4 f5 f6
  have HK2 := hide hc2
  have HB2 := hide (HBk1.out.trans (hb.mono HBk1.out.size))
  have HK1' := hide (HK1.out.below hb)
  clear hb hc2
  go_wp2
  refine wp_region_chainH (fun w' => Below k2.heap.size k2 w') [(false, 0), (false, 1), (true, 2), (true, 3), (true, 4), (true, 5), (true, 7), (false, 6), (false, 8), (false, 9), (false, 10), (false, 11), (false, 12), (false, 13), (false, 14), (true, 15), (true, 16), (true, 17), (true, 18), (false, 19), (false, 20), (false, 21), (false, 22), (false, 23), (false, 24), (false, 25), (false, 26), (false, 27), (false, 28)] (by kernel_rfl) (by kernel_rfl) (by kernel_rfl) (fun _ _ _ _ _ h => h) ?_ ?_
  · exact (Below.refl _ _).drewN 1
  refine chainH_alone (by simp only [List.getElem?_toArray, List.getElem?_cons_zero]; rfl) ?_
  intro K hK
  go_wp2
  refine hK.out _ _ ((Below.refl _ _).drewN 1) ?_
  clear hK K
  refine chainH_alone (by simp only [List.getElem?_toArray, List.getElem?_cons_zero, List.getElem?_cons_succ]; rfl) ?_
  intro K hK
  go_wp2
  refine hK.out _ _ ((Below.refl _ _).drewN 1) ?_
  clear hK K
  refine chainH_take (v := ?_) (by simp only [List.getElem?_toArray, List.getElem?_cons_zero, List.getElem?_cons_succ]; rfl) (by rfl) (fun w hS => ?_) ?_
  rotate_left
  · go_simp <;> with_reducible rfl
  simp only [Act.put, List.setIfInBounds_toArray, List.set_cons_zero, List.set_cons_succ]
  refine chainH_take (v := ?_) (by simp only [List.getElem?_toArray, List.getElem?_cons_zero, List.getElem?_cons_succ]; rfl) (by rfl) (fun w hS => ?_) ?_
  rotate_left
  · obtain ⟨a0, a1, a2, a3, a4, a5, a6, -⟩ := cells7 ((HE.out.later HB2.out).later hS); go_simp <;> with_reducible rfl
  simp only [Act.put, List.setIfInBounds_toArray, List.set_cons_zero, List.set_cons_succ]
  refine chainH_take (v := ?_) (by simp only [List.getElem?_toArray, List.getElem?_cons_zero, List.getElem?_cons_succ]; rfl) (by rfl) (fun w hS => ?_) ?_
  rotate_left
  · obtain ⟨a0, a1, a2, a3, a4, a5, a6, -⟩ := cells7 ((HA.out.later HB2.out).later hS); go_simp <;> with_reducible rfl
  simp only [Act.put, List.setIfInBounds_toArray, List.set_cons_zero, List.set_cons_succ]
  refine chainH_take (v := ?_) (by simp only [List.getElem?_toArray, List.getElem?_cons_zero, List.getElem?_cons_succ]; rfl) (by rfl) (fun w hS => ?_) ?_
  rotate_left
  · obtain ⟨a0, a1, a2, a3, a4, a5, a6, -⟩ := cells7 ((HA.out.later HB2.out).later hS); go_simp <;> with_reducible rfl
  simp only [Act.put, List.setIfInBounds_toArray, List.set_cons_zero, List.set_cons_succ]
  refine chainH_take (v := ?_) (by simp only [List.getElem?_toArray, List.getElem?_cons_zero, List.getElem?_cons_succ]; rfl) (by rfl) (fun w hS => ?_) ?_
  rotate_left
  · obtain ⟨a0, a1, a2, a3, a4, a5, a6, -⟩ := cells7 ((HE.out.later HB2.out).later hS); go_simp <;> with_reducible rfl
  simp only [Act.put, List.setIfInBounds_toArray, List.set_cons_zero, List.set_cons_succ]
  refine chainH_alone (by simp only [List.getElem?_toArray, List.getElem?_cons_zero, List.getElem?_cons_succ]; rfl) ?_
  intro K hK
  go_wp2_with fail
  refine (rest_v 12354 0 0 2 0 0 0 _).mono ?_
  rintro e j0 ⟨rfl, hb⟩
  have Bj0 : Below k2.heap.size k2 j0 := ((Below.refl _ _).drewN 1).trans hb
  clear hb
  go_wp2
  refine hK.out _ _ Bj0 ?_
  clear hK K
  refine chainH_alone (by simp only [List.getElem?_toArray, List.getElem?_cons_zero, List.getElem?_cons_succ]; rfl) ?_
  intro K hK
  go_wp2
  have Bj1 : Below k2.heap.size k2 (j0.alloc (.cells #[.int .i32 32, .int .i32 0, .int .i32 0, .int .u8 1, .int .u8 0, .int .u8 0, .int .u8 0, .int .i32 12354, .int .i32 0, .int .i32 0, .int .u8 2, .int .u8 0, .int .u8 0, .int .u8 0, .int .i32 0, .int .i32 0, .int .i32 0, .int .u8 0, .int .u8 0, .int .u8 0, .int .u8 0, .int .i32 32, .int .i32 0, .int .i32 0, .int .u8 1, .int .u8 0, .int .u8 0, .int .u8 0] 27)) := Bj0.alloc Bj0.size _
  refine hK.out _ _ Bj1 ?_
  clear hK K
  have HX1 := hide (ex_cels1 j0)
  obtain ⟨j1, hj1⟩ : ∃ q, j0.alloc (.cells #[.int .i32 32, .int .i32 0, .int .i32 0, .int .u8 1, .int .u8 0, .int .u8 0, .int .u8 0, .int .i32 12354, .int .i32 0, .int .i32 0, .int .u8 2, .int .u8 0, .int .u8 0, .int .u8 0, .int .i32 0, .int .i32 0, .int .i32 0, .int .u8 0, .int .u8 0, .int .u8 0, .int .u8 0, .int .i32 32, .int .i32 0, .int .i32 0, .int .u8 1, .int .u8 0, .int .u8 0, .int .u8 0] 27) = q := ⟨_, rfl⟩
  rw [hj1]
  rw [hj1] at Bj1 HX1
  clear hj1
  refine chainH_alone (by simp only [List.getElem?_toArray, List.getElem?_cons_zero, List.getElem?_cons_succ]; rfl) ?_
  intro K hK
  go_wp2_with fail
  refine (same_ex _ _ exL1 rfl _ (HK1'.out.below Bj1) HX1.out).mono ?_
  rintro e j2 ⟨rfl, hb⟩
  have Bj2 : Below k2.heap.size k2 j2 := Bj1.trans (hb.mono Bj1.size)
  clear hb
  go_wp2
  refine hK.out _ _ Bj2 ?_
  clear hK K
  refine chainH_alone (by simp only [List.getElem?_toArray, List.getElem?_cons_zero, List.getElem?_cons_succ]; rfl) ?_
  intro K hK
  go_wp2
  refine hK.out _ _ Bj2 ?_
  clear hK K
  refine chainH_alone (by simp only [List.getElem?_toArray, List.getElem?_cons_zero, List.getElem?_cons_succ]; rfl) ?_
  intro K hK
  go_wp2
  refine hK.out _ _ Bj2 ?_
  clear hK K
  refine chainH_alone (by simp only [List.getElem?_toArray, List.getElem?_cons_zero, List.getElem?_cons_succ]; rfl) ?_
  intro K hK
  go_wp2
  refine hK.out _ _ Bj2 ?_
  clear hK K
  refine chainH_alone (by simp only [List.getElem?_toArray, List.getElem?_cons_zero, List.getElem?_cons_succ]; rfl) ?_
  intro K hK
  go_wp2
  refine hK.out _ _ Bj2 ?_
  clear hK K
  refine chainH_alone (by simp only [List.getElem?_toArray, List.getElem?_cons_zero, List.getElem?_cons_succ]; rfl) ?_
  intro K hK
  go_wp2
  refine hK.out _ _ Bj2 ?_
  clear hK K
  refine chainH_take (v := ?_) (by simp only [List.getElem?_toArray, List.getElem?_cons_zero, List.getElem?_cons_succ]; rfl) (by rfl) (fun w hS => ?_) ?_
  rotate_left
  · go_simp <;> with_reducible rfl
  simp only [Act.put, List.setIfInBounds_toArray, List.set_cons_zero, List.set_cons_succ]
  refine chainH_take (v := ?_) (by simp only [List.getElem?_toArray, List.getElem?_cons_zero, List.getElem?_cons_succ]; rfl) (by rfl) (fun w hS => ?_) ?_
  rotate_left
  · obtain ⟨a0, a1, a2, a3, a4, a5, a6, -⟩ := cells7 ((HE.out.later HB2.out).later hS); go_simp <;> with_reducible rfl
  simp only [Act.put, List.setIfInBounds_toArray, List.set_cons_zero, List.set_cons_succ]
  refine chainH_take (v := ?_) (by simp only [List.getElem?_toArray, List.getElem?_cons_zero, List.getElem?_cons_succ]; rfl) (by rfl) (fun w hS => ?_) ?_
  rotate_left
  · obtain ⟨a0, a1, a2, a3, a4, a5, a6, -⟩ := cells7 ((HE.out.later HB2.out).later hS); go_simp <;> with_reducible rfl
  simp only [Act.put, List.setIfInBounds_toArray, List.set_cons_zero, List.set_cons_succ]
  refine chainH_take (v := ?_) (by simp only [List.getElem?_toArray, List.getElem?_cons_zero, List.getElem?_cons_succ]; rfl) (by rfl) (fun w hS => ?_) ?_
  rotate_left
  · obtain ⟨a0, a1, a2, a3, a4, a5, a6, -⟩ := cells7 ((HC.out.later HB2.out).later hS); go_simp <;> with_reducible rfl
  simp only [Act.put, List.setIfInBounds_toArray, List.set_cons_zero, List.set_cons_succ]
  refine chainH_alone (by simp only [List.getElem?_toArray, List.getElem?_cons_zero, List.getElem?_cons_succ]; rfl) ?_
  intro K hK
  obtain ⟨c0, c1, c2, c3, c4, c5, c6, -⟩ := cells7 ((HE.out.later HB2.out).later Bj2)
  go_wp2
  refine hK.out _ _ Bj2 ?_
  clear hK K
  refine chainH_alone (by simp only [List.getElem?_toArray, List.getElem?_cons_zero, List.getElem?_cons_succ]; rfl) ?_
  intro K hK
  go_wp2
  have Bj3 : Below k2.heap.size k2 (j2.alloc (.cells #[.int .i32 32, .int .i32 0, .int .i32 0, .int .u8 1, .int .u8 0, .int .u8 0, .int .u8 0, .int .i32 32, .int .i32 0, .int .i32 0, .int .u8 1, .int .u8 0, .int .u8 0, .int .u8 0, .int .i32 97, .int .i32 0, .int .i32 0, .int .u8 1, .int .u8 0, .int .u8 0, .int .u8 0, .int .i32 32, .int .i32 0, .int .i32 0, .int .u8 1, .int .u8 0, .int .u8 0, .int .u8 0] 27)) := Bj2.alloc Bj2.size _
  refine hK.out _ _ Bj3 ?_
  clear hK K
  have HX2 := hide (ex_cels2 j2)
  obtain ⟨j3, hj3⟩ : ∃ q, j2.alloc (.cells #[.int .i32 32, .int .i32 0, .int .i32 0, .int .u8 1, .int .u8 0, .int .u8 0, .int .u8 0, .int .i32 32, .int .i32 0, .int .i32 0, .int .u8 1, .int .u8 0, .int .u8 0, .int .u8 0, .int .i32 97, .int .i32 0, .int .i32 0, .int .u8 1, .int .u8 0, .int .u8 0, .int .u8 0, .int .i32 32, .int .i32 0, .int .i32 0, .int .u8 1, .int .u8 0, .int .u8 0, .int .u8 0] 27) = q := ⟨_, rfl⟩
  rw [hj3]
  rw [hj3] at Bj3 HX2
  clear hj3
  refine chainH_alone (by simp only [List.getElem?_toArray, List.getElem?_cons_zero, List.getElem?_cons_succ]; rfl) ?_
  intro K hK
  go_wp2_with fail
  refine (same_ex _ _ exL2 rfl _ (HK2.out.below Bj3) HX2.out).mono ?_
  rintro e j4 ⟨rfl, hb⟩
  have Bj4 : Below k2.heap.size k2 j4 := Bj3.trans (hb.mono Bj3.size)
  clear hb
  have c25 := ((HE.out.later HB2.out).later Bj4).cell 0
  simp only [List.getElem?_cons_zero] at c25
  go_wp2
  refine hK.out _ _ Bj4 ?_
  clear hK K
  refine chainH_alone (by simp only [List.getElem?_toArray, List.getElem?_cons_zero, List.getElem?_cons_succ]; rfl) ?_
  intro K hK
  go_wp2
  refine hK.out _ _ Bj4 ?_
  clear hK K
  refine chainH_alone (by simp only [List.getElem?_toArray, List.getElem?_cons_zero, List.getElem?_cons_succ]; rfl) ?_
  intro K hK
  go_wp2
  refine hK.out _ _ Bj4 ?_
  clear hK K
  refine chainH_alone (by simp only [List.getElem?_toArray, List.getElem?_cons_zero, List.getElem?_cons_succ]; rfl) ?_
  intro K hK
  go_wp2
  refine hK.out _ _ Bj4 ?_
  clear hK K
  refine chainH_alone (by simp only [List.getElem?_toArray, List.getElem?_cons_zero, List.getElem?_cons_succ]; rfl) ?_
  intro K hK
  go_wp2
  refine hK.out _ _ Bj4 ?_
  clear hK K
  refine chainH_alone (by simp only [List.getElem?_toArray, List.getElem?_cons_zero, List.getElem?_cons_succ]; rfl) ?_
  intro K hK
  go_wp2
  refine hK.out _ _ Bj4 ?_
  clear hK K
  refine chainH_alone (by simp only [List.getElem?_toArray, List.getElem?_cons_zero, List.getElem?_cons_succ]; rfl) ?_
  intro K hK
  go_wp2
  refine hK.out _ _ Bj4 ?_
  clear hK K
  refine chainH_alone (by simp only [List.getElem?_toArray, List.getElem?_cons_zero, List.getElem?_cons_succ]; rfl) ?_
  intro K hK
  go_wp2
  refine hK.out _ _ Bj4 ?_
  clear hK K
  refine chainH_nil ?_
  go_wp2
  go_ret
  exact ⟨rfl, HB.out.trans ((HB2.out.trans (Bj4.mono HB2.out.size)).mono HB.out.size)⟩
end Go.Proofs.YtdeoeihbmdgipaaDoor
