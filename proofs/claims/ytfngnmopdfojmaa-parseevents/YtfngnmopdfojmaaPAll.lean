/-
  Contracts: what is held in the end, a copy, all that bytes tell (the program's); a nil parser's.
-/
import Derived.Test.YtfngnmopdfojmaaPFeed
namespace Go.Proofs.Ytfngnmopdfojmaa
set_option maxRecDepth 100000
open Go.ChangeShapes Go.WideShapes Go.ChangeAt Go.RowKit
set_option linter.unusedVariables false

section
variable {g : Nat} {w : World} {p : Ps}
set_option maxHeartbeats 2000000 in
theorem pflush_any (h : Pr w g p) : Calls Try.prog 14 #[.pointer (some ⟨g, 0, none⟩)] w fun e w' => ∃ v, e = .returned v ∧ OwnE 0 56 .i32 w.heap.size w' w' v (brkE p.h) ∧ Pr w' g ⟨0, p.n, []⟩ ∧ Fr w.heap.size g w w' := by
  obtain ⟨w0, hw0⟩ : ∃ w0, w.alloc (.cells #[.slice none 0 0] 44) = w0 := ⟨_, rfl⟩
  obtain ⟨W, hW⟩ : ∃ W, w0.drew.alloc (.cells #[.pointer (some ⟨w.heap.size, 0, none⟩)] 67) = W := ⟨_, rfl⟩
  have hb0 : Below w.heap.size w w0 := by rw [← hw0]; exact (Below.refl _ _).alloc (Nat.le_refl _) _
  have hb1 : Below w0.heap.size w0 W := by rw [← hW]; exact ((Below.refl w0.heap.size w0).drewN 1).alloc (Nat.le_refl _) _
  have HB : Hid (Below w.heap.size w W) := hb0.trans (hb1.mono hb0.size)
  obtain ⟨gL, hgL⟩ : ∃ gL, w.heap.size = gL := ⟨_, rfl⟩
  obtain ⟨gB, hgB⟩ : ∃ gB, w0.drew.heap.size = gB := ⟨_, rfl⟩
  have HTel : Hid (Tel w.heap.size W gB gL []) := by
    refine ⟨?_, ⟨.slice none 0 0, ?_, OwnE.start HB.out.size (Nat.zero_le _)⟩, ?_, by omega⟩
    · rw [← hgB, ← hgL, ← hW]; exact Whole.new w0.drew 67 _
    · have : Whole w0 gL 44 [.slice none 0 0] := by rw [← hgL, ← hw0]; exact Whole.new w 44 _
      exact this.later hb1
    · rw [← hgB]; exact hb0.size
  have HP0 := hide (h.later HB.out)
  have hgl : g < w.heap.size := h.lt
  have HW0 := hide hw0
  have HW := hide hW
  have HGL := hide hgL
  have HGB := hide hgB
  clear hw0 hW hb0 hb1 hgL hgB h
  go_enter Try.func14, Try.ntmps14
  go_wp2
  rw [HW0.out]
  refine wp_region_chainL (fun w' => w' = w0.drew ∨ w' = W) 4 [(0, 0), (0, 1), (0, 2), (1, 3), (3, 4)] (by kernel_rfl) (by kernel_rfl) (by kernel_rfl) (fun _ _ _ _ _ h => h) ?_ ?_
  · exact .inl rfl
  refine chainL_take (v := ?_) (by simp only [List.getElem?_toArray, List.getElem?_cons_zero]; rfl) (by rfl) (fun w hS => ?_) ?_
  rotate_left
  · go_simp <;> with_reducible rfl
  simp only [Act.put, List.setIfInBounds_toArray, List.set_cons_zero, List.set_cons_succ]
  refine chainL_take (v := ?_) (by simp only [List.getElem?_toArray, List.getElem?_cons_zero, List.getElem?_cons_succ]; rfl) (by rfl) (fun w hS => ?_) ?_
  rotate_left
  · go_simp <;> with_reducible rfl
  simp only [Act.put, List.setIfInBounds_toArray, List.set_cons_zero, List.set_cons_succ]
  refine chainL_take (v := ?_) (by simp only [List.getElem?_toArray, List.getElem?_cons_zero, List.getElem?_cons_succ]; rfl) (by rfl) (fun w hS => ?_) ?_
  rotate_left
  · go_simp <;> with_reducible rfl
  simp only [Act.put, List.setIfInBounds_toArray, List.set_cons_zero, List.set_cons_succ]
  refine chainL_alone (by simp only [List.getElem?_toArray, List.getElem?_cons_zero, List.getElem?_cons_succ]; rfl) ?_
  intro K hK
  go_wp2_with fail
  refine (onto_any w.heap.size w0.drew).mono ?_
  rintro e w1 ⟨rfl, rfl⟩
  rw [HW.out, HGB.out]
  go_wp2
  refine hK.out _ _ (.inr rfl) ?_
  clear hK K
  refine chainL_late (by simp only [List.getElem?_toArray, List.getElem?_cons_zero, List.getElem?_cons_succ]; rfl) ?_
  intro K hK
  go_wp2_with fail
  refine (pend_any HP0.out HTel.out hgl (by simp)).mono ?_
  rintro e w2 ⟨rfl, hp, ht, hf⟩
  have HP2 := hide hp
  have HT2 := hide ht
  have HF2 := hide ((Fr.of_below HB.out).trans hf)
  clear hp ht hf HP0 HTel
  go_wp2
  refine hK.out _ _ ?_
  clear hK K
  refine chainL_nil ?_
  rw [HGL.out]
  obtain ⟨v, hv, ho⟩ := HT2.out.var
  have c15 := HP2.out.st
  have z15 := HP2.out.frozen 15
  have l15 := HP2.out.lt
  try simp only at c15
  have HP3 := hide (HP2.out.setst 0)
  have hf3 : Fr w2.heap.size g w2 (w2.setCell ⟨g, 15, none⟩ (.int .i64 0)) := Fr.put 15 _
  have HT3 := hide (HT2.out.fr HP2.out hf3)
  have HF3 : Hid (Fr w.heap.size g w (w2.setCell ⟨g, 15, none⟩ (.int .i64 0))) := HF2.out.trans (Fr.put 15 _)
  clear hv ho hf3
  obtain ⟨v, hv, ho⟩ := HT3.out.var
  have c1 : (w2.setCell ⟨g, 15, none⟩ (.int .i64 0)).cell? ⟨gL, 0, none⟩ = some v := hv.cell 0
  have l1 := hv.lt
  obtain ⟨A9, n9, c9, rfl⟩ := ho.slice
  have HO := hide ho
  clear hv ho
  go_wp2
  go_ret
  exact ⟨_, rfl, HO.out, HP3.out, HF3.out⟩
/-- A parser's sixteen cells. -/
theorem Pr.sixteen (h : Pr w g p) : ∃ b0 b1 b2 b3 m l0 l1 l2 l3 l4 l5 l6 l7 l8 cn st : Int, Whole w g 33 [.int .u8 b0, .int .u8 b1, .int .u8 b2, .int .u8 b3, .int .i64 m, .int .i64 l0, .int .i64 l1, .int .i64 l2, .int .i64 l3, .int .i64 l4, .int .i64 l5, .int .i64 l6, .int .i64 l7, .int .i64 l8, .int .i64 cn, .int .i64 st] ∧ ∀ w' g', Whole w' g' 33 [.int .u8 b0, .int .u8 b1, .int .u8 b2, .int .u8 b3, .int .i64 m, .int .i64 l0, .int .i64 l1, .int .i64 l2, .int .i64 l3, .int .i64 l4, .int .i64 l5, .int .i64 l6, .int .i64 l7, .int .i64 l8, .int .i64 cn, .int .i64 st] → Pr w' g' p := by
  obtain ⟨l, ha, b, hb, hw, ht, h4⟩ := h
  have hl := ha.len
  match b, hb with
  | [b0, b1, b2, b3], _ =>
    match l, hl with
    | [l0, l1, l2, l3, l4, l5, l6, l7, l8], _ =>
      exact ⟨b0, b1, b2, b3, _, l0, l1, l2, l3, l4, l5, l6, l7, l8, _, _, hw, fun w' g' hw' => ⟨[l0, l1, l2, l3, l4, l5, l6, l7, l8], ha, [b0, b1, b2, b3], rfl, hw', ht, h4⟩⟩
set_option maxHeartbeats 2000000 in
theorem pcopy_any (h : Pr w g p) : Calls Try.prog 7 #[.pointer (some ⟨g, 0, none⟩)] w fun e w' => e = .returned (.pointer (some ⟨w.heap.size, 0, none⟩)) ∧ Pr w' w.heap.size p ∧ Below w.heap.size w w' := by
  obtain ⟨b0, b1, b2, b3, m, l0, l1, l2, l3, l4, l5, l6, l7, l8, cn, st, hw, hall⟩ := h.sixteen
  have c0 : w.cell? ⟨g, 0, none⟩ = some (.int .u8 b0) := hw.cell 0
  have c1 : w.cell? ⟨g, 1, none⟩ = some (.int .u8 b1) := hw.cell 1
  have c2 : w.cell? ⟨g, 2, none⟩ = some (.int .u8 b2) := hw.cell 2
  have c3 : w.cell? ⟨g, 3, none⟩ = some (.int .u8 b3) := hw.cell 3
  have c4 : w.cell? ⟨g, 4, none⟩ = some (.int .i64 m) := hw.cell 4
  have c5 : w.cell? ⟨g, 5, none⟩ = some (.int .i64 l0) := hw.cell 5
  have c6 : w.cell? ⟨g, 6, none⟩ = some (.int .i64 l1) := hw.cell 6
  have c7 : w.cell? ⟨g, 7, none⟩ = some (.int .i64 l2) := hw.cell 7
  have c8 : w.cell? ⟨g, 8, none⟩ = some (.int .i64 l3) := hw.cell 8
  have c9 : w.cell? ⟨g, 9, none⟩ = some (.int .i64 l4) := hw.cell 9
  have c10 : w.cell? ⟨g, 10, none⟩ = some (.int .i64 l5) := hw.cell 10
  have c11 : w.cell? ⟨g, 11, none⟩ = some (.int .i64 l6) := hw.cell 11
  have c12 : w.cell? ⟨g, 12, none⟩ = some (.int .i64 l7) := hw.cell 12
  have c13 : w.cell? ⟨g, 13, none⟩ = some (.int .i64 l8) := hw.cell 13
  have c14 : w.cell? ⟨g, 14, none⟩ = some (.int .i64 cn) := hw.cell 14
  have c15 : w.cell? ⟨g, 15, none⟩ = some (.int .i64 st) := hw.cell 15
  have lt := hw.lt
  have HN := hide (hall _ _ (Whole.new w 33 [.int .u8 b0, .int .u8 b1, .int .u8 b2, .int .u8 b3, .int .i64 m, .int .i64 l0, .int .i64 l1, .int .i64 l2, .int .i64 l3, .int .i64 l4, .int .i64 l5, .int .i64 l6, .int .i64 l7, .int .i64 l8, .int .i64 cn, .int .i64 st]))
  have HB : Hid (Below w.heap.size w (w.alloc (.cells #[.int .u8 b0, .int .u8 b1, .int .u8 b2, .int .u8 b3, .int .i64 m, .int .i64 l0, .int .i64 l1, .int .i64 l2, .int .i64 l3, .int .i64 l4, .int .i64 l5, .int .i64 l6, .int .i64 l7, .int .i64 l8, .int .i64 cn, .int .i64 st] 33))) := (Below.refl _ _).alloc (Nat.le_refl _) _
  clear hw hall h
  go_enter Try.func7, Try.ntmps7
  go_wp2
  go_ret
  exact ⟨rfl, HN.out, HB.out⟩
end
theorem pcopy_nil (w : World) : Calls Try.prog 7 #[.pointer none] w fun e w' => e = .returned (.pointer none) ∧ w = w' := by
  go_enter Try.func7, Try.ntmps7
  go_wp2
  go_ret
  exact ⟨rfl, rfl⟩
theorem prest_nil (w : World) : Calls Try.prog 10 #[.pointer none] w fun e w' => e = .returned (.bool false) ∧ w = w' := by
  go_enter Try.func10, Try.ntmps10
  go_wp2
  go_ret
  exact ⟨rfl, rfl⟩
theorem pflush_nil (w : World) : Calls Try.prog 14 #[.pointer none] w fun e w' => e = .returned (.slice none 0 0) ∧ w = w' := by
  go_enter Try.func14, Try.ntmps14
  go_wp2
  go_ret
  exact ⟨rfl, rfl⟩
theorem pfeed_nil (v : Value) (w : World) : Calls Try.prog 9 #[.pointer none, v] w fun e w' => e = .returned (.slice none 0 0) ∧ w = w' := by
  go_enter Try.func9, Try.ntmps9
  go_wp2
  go_step3
  go_wp2
  rw [Exit.noGoto_ret]
  go_ret
  exact ⟨rfl, rfl⟩

set_option maxHeartbeats 2000000 in
theorem pall_any (A : Option Addr) (n c : Nat) (bs : List Int) (w : World) (hi : Ints .u8 w A bs) (hby : Byte bs) (hn : bs.length = n) (hl : n ≤ 1000) (hA : ∀ ad, A = some ad → 0 < n → ad.block < w.heap.size) :
    Calls Try.prog 16 #[.slice A n c] w fun e w' => ∃ v, e = .returned v ∧ OwnE 0 56 .i32 w.heap.size w w' v (allP bs) := by
  obtain ⟨W, hW⟩ : ∃ W, w.alloc (.cells #[.int .u8 0, .int .u8 0, .int .u8 0, .int .u8 0, .int .i64 0, .int .i64 0, .int .i64 0, .int .i64 0, .int .i64 0, .int .i64 0, .int .i64 0, .int .i64 0, .int .i64 0, .int .i64 0, .int .i64 0, .int .i64 0] 33) = W := ⟨_, rfl⟩
  have HB : Hid (Below w.heap.size w W) := by unfold Hid; rw [← hW]; exact (Below.refl _ _).alloc (Nat.le_refl _) _
  have HP : Hid (Pr W w.heap.size p0) := by unfold Hid; rw [← hW]; exact Pr.new w
  have HI := hide (hi.below HB.out)
  have HN := hide hn
  have HA : Hid (∀ ad, A = some ad → 0 < n → ad.block ≠ w.heap.size) := fun ad e q => by have := hA ad e q; omega
  have HW := hide hW
  have hff := feed_facts bs p0 ok0 hby
  have HE : Hid (allP bs = (feedP p0 bs).2 ++ brkE (feedP p0 bs).1.h) := rfl
  obtain ⟨q, es, hqe⟩ : ∃ q es, feedP p0 bs = (q, es) := ⟨_, _, rfl⟩
  rw [hqe] at hff HE
  simp only at hff HE
  have hle : es.length ≤ 4000 := by have := hff.2.2; omega
  have hbl := brk_len q.h
  have HQE := hide hqe
  clear hi hn hA hW hff hqe
  go_enter Try.func16, Try.ntmps16
  go_wp2_with fail
  rw [HW.out]
  refine (pfeed_any w.heap.size p0 bs A n c W HP.out ok0 hby HI.out HN.out hl HA.out).mono ?_
  rintro e w1 ⟨v1, rfl, ho1, hp1, hf1⟩
  rw [HQE.out] at ho1 hp1
  simp only at ho1 hp1
  have HP1 := hide hp1
  have HO1 := hide ho1
  have HB1 : Hid (Below w.heap.size w w1) := HB.out.trans (hf1.below HB.out.size (Nat.le_refl _))
  clear hp1 ho1 hf1 HP HI
  obtain ⟨A1, n1, c1, rfl⟩ := HO1.out.slice
  go_wp2_with fail
  refine (pflush_any HP1.out).mono ?_
  rintro e w2 ⟨v2, rfl, ho2, hp2, hf2⟩
  have hst : ∀ t, t ≠ 33 → Stays t w1 w2 := fun t ht => HP1.out.stays hf2 ht
  have HO3 := hide (HO1.out.keep (fun _ hb => absurd hb (by omega)) (hst 3 (by decide)) (hst 56 (by decide)) hf2.size)
  obtain ⟨A2, c2, rfl, hev, -, hc2, -⟩ := ho2.form
  obtain ⟨m2, hm2⟩ : ∃ m2, (brkE q.h).length = m2 := ⟨_, rfl⟩
  rw [hm2]
  rw [hm2] at hbl
  have HM2 := hide hm2
  have HEV := hide hev
  have HC2 := hide hc2
  have HB2 : Hid (Below w.heap.size w w2) := HB1.out.trans (hf2.below HB1.out.size (Nat.le_refl _))
  have HWle : Hid (w.heap.size ≤ W.heap.size) := HB.out.size
  clear ho2 hp2 hf2 hst hev hc2 hm2 HO1 HP1
  go_wp2_with (at_builtin; refine wpList_catE elemEv (by rfl) _ _ rfl rfl rfl HO3.out HEV.out HM2.out HC2.out (by omega) (by omega) (by decide) ?_; intro v3 w3 ho3 _ hb3)
  go_ret
  refine ⟨_, rfl, ?_⟩
  rw [HE.out]
  exact (ho3.less HWle.out (Nat.zero_le _)).now.since (HB2.out.trans (hb3.mono HWle.out))
end Go.Proofs.Ytfngnmopdfojmaa
