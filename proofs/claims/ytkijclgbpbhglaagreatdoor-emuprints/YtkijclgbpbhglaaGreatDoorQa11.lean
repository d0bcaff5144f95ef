/-
  Contract: rows scrolled (the program's).
  Contracts: a new grid, a copy, a grid of another size (the program's).
-/
import Derived.Test.YtkijclgbpbhglaaGreatDoorQa10
import Derived.Test.YtkijclgbpbhglaaGreatDoorQa9
namespace Go.Proofs.YtkijclgbpbhglaaGreatDoor
set_option maxRecDepth 100000
open Go.ChangeShapes Go.WideShapes Go.ChangeAt Go.RowKit
set_option linter.unusedVariables false

/-- The place that a row came from, if the first up rows go behind the others. -/
def rotI (R up i : Nat) : Nat := if i < R - up then i + up else i - (R - up)
theorem rotI_lt {R up i : Nat} (h : up ≤ R) (hi : i < R) : rotI R up i < R := by unfold rotI; split <;> omega
theorem rotI_inj {R up i j : Nat} (h : up ≤ R) (hi : i < R) (hj : j < R) (e : rotI R up i = rotI R up j) : i = j := by
  unfold rotI at e
  split at e <;> split at e <;> omega
theorem rows_rot (M C : Nat) (ps : Nat → Nat) (R up : Nat) (h : up ≤ R) : (rowsV M C ps R).drop up ++ (rowsV M C ps R).take up = rowsV M C (fun i => ps (rotI R up i)) R := by
  apply List.ext_getElem?
  intro i
  by_cases hi : i < R
  · rw [rowsV_get _ _ _ _ _ hi]
    by_cases h1 : i < R - up
    · rw [List.getElem?_append_left (by rw [List.length_drop, rowsV_len]; exact h1), List.getElem?_drop, rowsV_get _ _ _ _ _ (by omega)]
      unfold rowV rotI
      simp only [if_pos h1, Nat.add_comm up i]
    · rw [List.getElem?_append_right (by rw [List.length_drop, rowsV_len]; omega), List.length_drop, rowsV_len, List.getElem?_take, if_pos (by omega), rowsV_get _ _ _ _ _ (by omega)]
      unfold rowV rotI
      simp only [if_neg h1]
  · rw [List.getElem?_eq_none (by rw [List.length_append, List.length_drop, List.length_take, rowsV_len]; omega), List.getElem?_eq_none (by rw [rowsV_len]; omega)]
/-- The first up rows behind the others; so many rows from a place on blank. -/
def rotG (g : Gd) (R C up come k : Nat) (p : Pn) : Gd := { g with ls := gtab R (fun i => if come ≤ i ∧ i < come + k then tab C (fun _ => blankC p) else lAt g.ls (rotI R up i)) }
section
variable {w w' : World} {G L M R C : Nat} {g : Gd} {cap : Nat} {ps : Nat → Nat} {room : List Cel} {more : List Value}
theorem GridAt.vals (h : GridAt w G L M R C g cap ps room more) {up : Nat} (hu : up ≤ R) {A1 : Addr} (hA : A1 = if cap = up then ⟨L, 0, none⟩ else ⟨L, up, none⟩) : Vals w A1 ((rowsV M C ps R).drop up) ∧ Vals w ⟨L, 0, none⟩ ((rowsV M C ps R).take up) := by
  have hadd : ∀ o j, (⟨L, o, none⟩ : Addr).add j = ⟨L, o + j, none⟩ := fun o j => by unfold Addr.add; split <;> simp_all
  have hone : ∀ u ∈ rowsV M C ps R, u.oneCell' = true := by
    intro u hu
    obtain ⟨i, _, rfl⟩ := List.mem_map.1 hu
    rfl
  refine ⟨⟨fun j u hj => ?_, fun u hu => hone u (List.mem_of_mem_drop hu)⟩, ⟨fun j u hj => ?_, fun u hu => hone u (List.mem_of_mem_take hu)⟩⟩
  · rw [List.getElem?_drop] at hj
    have hl := (List.getElem?_eq_some_iff.1 hj).1
    rw [rowsV_len] at hl
    have hc := h.cap1
    subst hA
    rw [if_neg (by omega), hadd, h.lines.cell, List.getElem?_append_left (by rw [rowsV_len]; exact hl), hj]
  · rw [List.getElem?_take] at hj
    split at hj
    · have hl := (List.getElem?_eq_some_iff.1 hj).1
      rw [hadd, h.lines.cell, Nat.zero_add, List.getElem?_append_left hl, hj]
    · cases hj
theorem GridAt.rot (h : GridAt w G L M R C g cap ps room more) {up come : Nat} (hu : up ≤ R) {p : Pn} {L2 cap2 : Nat} {more2 : List Value} (hw : Whole w L2 97 ((rowsV M C ps R).drop up ++ (rowsV M C ps R).take up ++ more2)) (h1 : R ≤ cap2) (h2 : cap2 ≤ maxLen) :
    GridAt (w.setCell ⟨G, 2, none⟩ (.slice (some ⟨L2, 0, none⟩) R cap2)) G L2 M R C (rotG g R C up come 0 p) cap2 (fun i => ps (rotI R up i)) room more2 := by
  refine ⟨h.top.put 2 _, ?_, h.piece.far (Only.put _ _) (Ne.symm h.neGM), h.len, h1, h2, fun i hi => h.perm _ (rotI_lt hu hi), fun i j hi hj e => rotI_inj hu hi hj (h.inj _ _ (rotI_lt hu hi) (rotI_lt hu hj) e), ?_⟩
  · rw [← rows_rot _ _ _ _ _ hu]
    exact hw.far (Only.put _ _) (hw.ne h.top (by decide))
  · refine gtab_eq fun i hi => ?_
    rw [if_neg (by omega), h.lAt (rotI_lt hu hi)]
theorem Spans.turn (hS : Spans w) (hg : Grd w G L M R C g) (hR : 1 ≤ R) (ht : Trn G L M w w') : Spans w' := by
  obtain ⟨cap, ps, room, more, h⟩ := hg
  have e0 : w.cell? ⟨0, 0, none⟩ = some (.int .i32 0) := hS 0 (.int .i32 0) rfl
  have e2 : ∃ x, w.cell? ⟨0, 2, none⟩ = some (.int .i64 x) := ⟨_, hS 2 _ rfl⟩
  have lt := hS.size
  have hG : 0 ≠ G := by
    rintro rfl
    rw [h.top.cell] at e0
    simp at e0
  have hL : 0 ≠ L := by
    rintro rfl
    rw [h.row (i := 0) (by omega)] at e0
    cases e0
  have hM : 0 ≠ M := by
    rintro rfl
    obtain ⟨x, e2⟩ := e2
    rw [h.piece.cell] at e2
    have hm := List.mem_of_getElem? e2
    unfold flatC at hm
    obtain ⟨c, _, hc⟩ := List.mem_flatMap.1 hm
    simp [cellL] at hc
  intro j v hv
  have := hS j v hv
  have hb := ht.block 0 lt hG hL hM
  unfold World.cell? at this ⊢
  simp only at this ⊢
  rw [hb]
  exact this
end
theorem rotG_next (g : Gd) (R C up come k j : Nat) (p : Pn) (hj : j = come + k) (hp : rightN p = true) (hk : j < R) (hl : ∀ i, i < R → (lAt g.ls i).length = C) (hu : up ≤ R) : eraseG (rotG g R C up come k p) (j : Int) 0 (C : Int) p = rotG g R C up come (k + 1) p := by
  subst hj
  unfold eraseG
  have hlen : (rotG g R C up come k p).ls.length = R := gtab_len _ _
  rw [if_pos ⟨by unfold hasG; rw [hlen]; omega, hp⟩, Int.toNat_natCast]
  have e1 : ∀ i, i < R → lAt (rotG g R C up come k p).ls i = if come ≤ i ∧ i < come + k then tab C (fun _ => blankC p) else lAt g.ls (rotI R up i) := fun i hi => gtab_lAt _ _ _ hi
  have e2 : eraseC (lAt (rotG g R C up come k p).ls (come + k)) 0 (C : Int) p = tab C (fun _ => blankC p) := by
    refine erase_all _ C ?_ p
    rw [e1 _ hk, if_neg (by omega)]
    exact hl _ (rotI_lt hu hk)
  rw [e2, set_gtab, hlen]
  show ({ ls := _, row := g.row, col := g.col } : Gd) = { ls := _, row := g.row, col := g.col }
  congr 1
  refine gtab_eq fun i hi => ?_
  rw [e1 i hi]
  by_cases q : i = come + k
  · rw [if_pos q, if_pos (by omega)]
  · rw [if_neg q]
    by_cases q2 : come ≤ i ∧ i < come + k
    · rw [if_pos q2, if_pos (by omega)]
    · rw [if_neg q2, if_neg (by omega)]
/-- Up. -/
theorem rotG_up (g : Gd) (R C m : Nat) (n : Int) (p : Pn) (hp : rightN p = true) (hR : g.ls.length = R) (hn : clampI n R = (m : Int)) (hm : m ≤ R) : rotG g R C m (R - m) m p = scrollG g C n p := by
  unfold rotG scrollG
  rw [if_pos hp, hR, hn]
  congr 1
  refine gtab_eq fun i hi => ?_
  unfold scrollAt rotI
  rw [hR]
  by_cases q : i < R - m
  · rw [if_neg (by omega), if_pos q, if_pos (by omega)]
    congr 1
  · rw [if_pos (by omega), if_neg (by omega)]
/-- Down. -/
theorem rotG_down (g : Gd) (R C m : Nat) (n : Int) (p : Pn) (hp : rightN p = true) (hR : g.ls.length = R) (hn : clampI n R = -(m : Int)) (hm : m ≤ R) : rotG g R C (R - m) 0 m p = scrollG g C n p := by
  unfold rotG scrollG
  rw [if_pos hp, hR, hn]
  congr 1
  refine gtab_eq fun i hi => ?_
  unfold scrollAt rotI
  rw [hR]
  by_cases q : i < m
  · rw [if_pos (by omega), if_neg (by omega)]
  · rw [if_neg (by omega), if_neg (by omega), if_pos (by omega)]
    congr 1
    omega
section
variable {w : World} {G L M R C : Nat} {g : Gd}
/-- What a scroll leaves. -/
def Scrolled (R C : Nat) (g' : Gd) (w : World) (G L M : Nat) (e : Ending) (w' : World) : Prop := e = .returned (.tuple #[]) ∧ ∃ L', Grd w' G L' M R C g' ∧ Trn G L M w w' ∧ (L' = L ∨ w.heap.size ≤ L')
set_option maxHeartbeats 4000000 in
theorem scroll_up (h : Grd w G L M R C g) (hR : 1 ≤ R) (hR2 : R ≤ 512) (hC : 1 ≤ C) (hC2 : C ≤ 512) (hS : Spans w) (n : Int) (f y b : Nat) (hp : rightN ⟨f, y, b⟩ = true) (m come : Nat) (hm : m ≤ R) (hcome : R - m = come) (hn : clampI n R = (m : Int)) :
    Calls Tryz.prog 148 #[.pointer (some ⟨G, 0, none⟩), .int .i64 n, .agg #[.int .u8 (f : Int), .int .u8 (y : Int), .int .u8 (b : Int)]] w (Scrolled R C (scrollG g C n ⟨f, y, b⟩) w G L M) := by
  obtain ⟨W0, hW0⟩ : ∃ W0, w.alloc (.cells #[.int .u8 (f : Int), .int .u8 (y : Int), .int .u8 (b : Int)] 65) = W0 := ⟨_, rfl⟩
  have HB0 : Hid (Below w.heap.size w W0) := by unfold Hid; rw [← hW0]; exact (Below.refl _ _).alloc (Nat.le_refl _) _
  have HS0 : Hid (Spans W0) := by unfold Hid; rw [← hW0]; exact hS.alloc _
  have HP0 : Hid (Whole W0 w.heap.size 65 [.int .u8 (f : Int), .int .u8 (y : Int), .int .u8 (b : Int)]) := by unfold Hid; rw [← hW0]; exact Whole.new w 65 [.int .u8 (f : Int), .int .u8 (y : Int), .int .u8 (b : Int)]
  have HEnd : Hid (rotG g R C m come m ⟨f, y, b⟩ = scrollG g C n ⟨f, y, b⟩) := by unfold Hid; rw [← hcome]; exact rotG_up g R C m n ⟨f, y, b⟩ hp h.glen hn hm
  have HLs : Hid (∀ i, i < R → (lAt g.ls i).length = C) := by unfold Hid; obtain ⟨_, _, _, _, ha⟩ := h; exact fun i hi => ha.lenAt hi
  have HltG := hide h.ltG
  have HltL := hide h.ltL
  have HltM := hide h.ltM
  have HPR := hide hp
  have HW0 := hide hW0
  have HG0 := hide (h.later HB0.out)
  have hcl : min (max n (-(R : Int))) (R : Int) = (m : Int) := hn
  have hi1 : (R : Int) - (m : Int) = (come : Int) := by omega
  have hi2 : (come : Int) + (m : Int) = (R : Int) := by omega
  have hi3 : come ≤ R := by omega
  have hcome0 := hide hcome
  obtain ⟨a0, a1, a2, lP⟩ := cells3 HP0.out
  clear hW0 h hn hp hS hcome
  go_enter Tryz.func148, Tryz.ntmps148
  go_wp2_with fail
  rw [HW0.out]
  refine (right_any f y b W0).mono ?_
  rintro e W1 ⟨rfl, hb⟩
  rw [HPR.out]
  have HB := hide (HB0.out.trans (hb.mono HB0.out.size))
  have HS := hide (HS0.out.below hb)
  have HP := hide (HP0.out.later hb)
  have HG := hide (HG0.out.later hb)
  clear a0 a1 a2 lP hb HB0 HS0 HP0 HG0
  obtain ⟨cap, ps, room, more, ha⟩ := HG.out
  have HA := hide ha
  obtain ⟨c0, c1, c2, lG, lL, lM⟩ := ha.three
  have hcap := ha.cap1
  have hcap2 := ha.cap2
  unfold maxLen at hcap2
  obtain ⟨A1, hA1⟩ : ∃ A1 : Addr, (if cap = m then (⟨L, 0, none⟩ : Addr) else ⟨L, m, none⟩) = A1 := ⟨_, rfl⟩
  have HV1 := hide (ha.vals (up := m) (by omega) hA1.symm).1
  have HV2 := hide (ha.vals (up := m) (by omega) hA1.symm).2
  have HA1 := hide hA1
  clear hA1 ha
  go_wp2
  refine wp_region_chainL (fun w' => Below W1.heap.size W1 w') 17 [(0, 0), (0, 1), (0, 5), (0, 7), (0, 11), (0, 2), (0, 3), (0, 8), (0, 9), (0, 4), (0, 6), (1, 10), (1, 12), (1, 13), (1, 14), (1, 15), (1, 16), (3, 17)] (by kernel_rfl) (by kernel_rfl) (by kernel_rfl) (fun _ _ _ _ _ h => h) ?_ ?_
  · exact (Below.refl _ _).drewN 1
  refine chainL_take (v := ?_) (by simp only [List.getElem?_toArray, List.getElem?_cons_zero]; rfl) (by rfl) (fun w hS => ?_) ?_
  rotate_left
  · go_simp <;> with_reducible rfl
  simp only [Act.put, List.setIfInBounds_toArray, List.set_cons_zero, List.set_cons_succ]
  refine chainL_take (v := ?_) (by simp only [List.getElem?_toArray, List.getElem?_cons_zero, List.getElem?_cons_succ]; rfl) (by rfl) (fun w hS => ?_) ?_
  rotate_left
  · go_simp <;> with_reducible rfl
  simp only [Act.put, List.setIfInBounds_toArray, List.set_cons_zero, List.set_cons_succ]
  refine chainL_take (v := ?_) (by simp only [List.getElem?_toArray, List.getElem?_cons_zero, List.getElem?_cons_succ]; rfl) (by rfl) (fun w hS => ?_) ?_
  rotate_left
  · go_simp <;> with_reducible rfl
  simp only [Act.put, List.setIfInBounds_toArray, List.set_cons_zero, List.set_cons_succ]
  refine chainL_take (v := ?_) (by simp only [List.getElem?_toArray, List.getElem?_cons_zero, List.getElem?_cons_succ]; rfl) (by rfl) (fun w hS => ?_) ?_
  rotate_left
  · go_simp <;> with_reducible rfl
  simp only [Act.put, List.setIfInBounds_toArray, List.set_cons_zero, List.set_cons_succ]
  refine chainL_take (v := ?_) (by simp only [List.getElem?_toArray, List.getElem?_cons_zero, List.getElem?_cons_succ]; rfl) (by rfl) (fun w hS => ?_) ?_
  rotate_left
  · go_simp <;> with_reducible rfl
  simp only [Act.put, List.setIfInBounds_toArray, List.set_cons_zero, List.set_cons_succ]
  refine chainL_take (v := ?_) (by simp only [List.getElem?_toArray, List.getElem?_cons_zero, List.getElem?_cons_succ]; rfl) (by rfl) (fun w hS => ?_) ?_
  rotate_left
  · go_simp <;> with_reducible rfl
  simp only [Act.put, List.setIfInBounds_toArray, List.set_cons_zero, List.set_cons_succ]
  refine chainL_take (v := ?_) (by simp only [List.getElem?_toArray, List.getElem?_cons_zero, List.getElem?_cons_succ]; rfl) (by rfl) (fun w hS => ?_) ?_
  rotate_left
  · go_simp <;> with_reducible rfl
  simp only [Act.put, List.setIfInBounds_toArray, List.set_cons_zero, List.set_cons_succ]
  refine chainL_take (v := ?_) (by simp only [List.getElem?_toArray, List.getElem?_cons_zero, List.getElem?_cons_succ]; rfl) (by rfl) (fun w hS => ?_) ?_
  rotate_left
  · go_simp <;> with_reducible rfl
  simp only [Act.put, List.setIfInBounds_toArray, List.set_cons_zero, List.set_cons_succ]
  refine chainL_take (v := ?_) (by simp only [List.getElem?_toArray, List.getElem?_cons_zero, List.getElem?_cons_succ]; rfl) (by rfl) (fun w hS => ?_) ?_
  rotate_left
  · go_simp <;> with_reducible rfl
  simp only [Act.put, List.setIfInBounds_toArray, List.set_cons_zero, List.set_cons_succ]
  refine chainL_take (v := ?_) (by simp only [List.getElem?_toArray, List.getElem?_cons_zero, List.getElem?_cons_succ]; rfl) (by rfl) (fun w hS => ?_) ?_
  rotate_left
  · obtain ⟨b0, b1, b2, -⟩ := cells3 (HA.out.top.later hS); go_simp <;> with_reducible rfl
  simp only [Act.put, List.setIfInBounds_toArray, List.set_cons_zero, List.set_cons_succ]
  refine chainL_take (v := .slice (some A1) (R - m) (cap - m)) (by simp only [List.getElem?_toArray, List.getElem?_cons_zero, List.getElem?_cons_succ]; rfl) (by rfl) (fun w hS => ?_) ?_
  · rw [← HA1.out]
    go_simp
    split <;> rfl
  simp only [Act.put, List.setIfInBounds_toArray, List.set_cons_zero, List.set_cons_succ]
  refine chainL_alone (by simp only [List.getElem?_toArray, List.getElem?_cons_zero, List.getElem?_cons_succ]; rfl) ?_
  intro K hK
  go_wp2
  refine hK.out _ _ ((Below.refl _ _).drewN 1) ?_
  clear hK K
  refine chainL_alone (by simp only [List.getElem?_toArray, List.getElem?_cons_zero, List.getElem?_cons_succ]; rfl) ?_
  intro K hK
  go_wp2
  refine hK.out _ _ ((Below.refl _ _).drewN 1) ?_
  clear hK K
  refine chainL_alone (by simp only [List.getElem?_toArray, List.getElem?_cons_zero, List.getElem?_cons_succ]; rfl) ?_
  intro K hK
  go_wp2
  refine hK.out _ _ (((Below.refl _ _).alloc (Nat.le_refl _) _).drewN 1) ?_
  clear hK K
  refine chainL_alone (by simp only [List.getElem?_toArray, List.getElem?_cons_zero, List.getElem?_cons_succ]; rfl) ?_
  intro K hK
  go_wp2_with fail
  refine (concat_any W1.heap.size A1 ⟨L, 0, none⟩ (R - m) m (cap - m) cap (((rowsV M C ps R).drop m)) ((rowsV M C ps R).take m) _ ?_ (HV1.out.below ?_) (HV2.out.below ?_) (by rw [List.length_drop, rowsV_len]) (by rw [List.length_take, rowsV_len]; omega) (by omega) (by omega)).mono ?_
  · exact (Whole.new W1 109 [.slice (some A1) (R - m) (cap - m), .slice (some ⟨L, 0, none⟩) m cap]).drewN 1
  · exact ((Below.refl _ _).alloc (Nat.le_refl _) _).drewN 1
  · exact ((Below.refl _ _).alloc (Nat.le_refl _) _).drewN 1
  rintro e k1 ⟨v, rfl, hown⟩
  obtain ⟨L2, cap2, more2, rfl, hL2, hw2, hc2, hm2⟩ := hown.form (by intro q; have := congrArg List.length q; rw [List.length_append, List.length_drop, List.length_take, rowsV_len] at this; simp at this; omega)
  have Bk1 : Below W1.heap.size W1 k1 := (((Below.refl W1.heap.size W1).alloc (Nat.le_refl _) _).drewN 1).trans (hown.bel.mono (by simp))
  rw [show ((rowsV M C ps R).drop m ++ (rowsV M C ps R).take m).length = R by rw [List.length_append, List.length_drop, List.length_take, rowsV_len]; omega] at hc2 ⊢
  have HW2 := hide hw2
  have HL2 : Hid (W1.heap.size ≤ L2) := by unfold Hid; have : (W1.alloc (.cells #[.slice (some A1) (R - m) (cap - m), .slice (some ⟨L, 0, none⟩) m cap] 109)).heap.size ≤ L2 := hL2; simp at this; omega
  have HC2 := hide hc2
  have HM2 := hide hm2
  have HBk := hide Bk1
  have HAk := hide (HA.out.later Bk1)
  clear hw2 hL2 hc2 hm2 hown c0 c1 c2 lG lL lM
  obtain ⟨b0, b1, b2, lG⟩ := cells3 HAk.out.top
  have hz := HAk.out.top.frozen
  go_wp2
  refine hK.out _ _ (Bk1) ?_
  clear hK K
  refine chainL_alone (by simp only [List.getElem?_toArray, List.getElem?_cons_zero, List.getElem?_cons_succ]; rfl) ?_
  intro K hK
  go_wp2
  refine hK.out _ _ (Bk1) ?_
  clear hK K
  refine chainL_alone (by simp only [List.getElem?_toArray, List.getElem?_cons_zero, List.getElem?_cons_succ]; rfl) ?_
  intro K hK
  go_wp2
  refine hK.out _ _ (Bk1) ?_
  clear hK K
  refine chainL_late (by simp only [List.getElem?_toArray, List.getElem?_cons_zero, List.getElem?_cons_succ]; rfl) ?_
  intro K hK
  go_wp2
  refine hK.out _ _ ?_
  clear hK K
  refine chainL_nil ?_
  have HA2 := hide (HAk.out.rot (up := m) (come := come) (p := ⟨f, y, b⟩) (by omega) HW2.out HC2.out HM2.out)
  obtain ⟨W2, hW2⟩ : ∃ W2, k1.setCell ⟨G, 2, none⟩ (.slice (some ⟨L2, 0, none⟩) R cap2) = W2 := ⟨_, rfl⟩
  rw [hW2] at HA2 ⊢
  have HT2 : Hid (Trn G L M w W2) := by unfold Hid; rw [← hW2]; exact Trn.ofB (HB.out.trans (HBk.out.mono HB.out.size)) (Trn.of_onlyG (Only.put _ _))
  have HP2 : Hid (Whole W2 w.heap.size 65 [.int .u8 (f : Int), .int .u8 (y : Int), .int .u8 (b : Int)]) := by unfold Hid; rw [← hW2]; exact (HP.out.later HBk.out).far (Only.put _ _) ((HP.out.later HBk.out).ne HAk.out.top (by decide))
  have HS2 : Hid (Spans W2) := by unfold Hid; rw [← hW2]; exact (HS.out.below HBk.out).turn (.of HAk.out) hR (Trn.of_onlyG (Only.put _ _))
  have HL2n : Hid (w.heap.size ≤ L2) := by unfold Hid; exact Nat.le_trans HB.out.size HL2.out
  clear hW2 b0 b1 b2 lG hz Bk1
  go_wp2
  go_loopw [9] (fun i wr => ∃ (j k : Nat), j = come + k ∧ k ≤ m ∧ i = .int .i64 (j : Int) ∧ Grd wr G L2 M R C (rotG g R C m come k ⟨f, y, b⟩) ∧ Trn G L M w wr ∧ Whole wr w.heap.size 65 [.int .u8 (f : Int), .int .u8 (y : Int), .int .u8 (b : Int)] ∧ Spans wr) (fun i _ => R - (intOf i).toNat)
  case atStart => exact ⟨come, 0, rfl, Nat.zero_le _, rfl, .of HA2.out, HT2.out, HP2.out, HS2.out⟩
  case round =>
    obtain ⟨j, k, hj, hk, rfl, hg, ht, hp, hs⟩ := hrel
    have HJ := hide hj
    have HGk := hide hg
    have HTk := hide ht
    have HPk := hide hp
    have HSk := hide hs
    have HKm := hide hk
    clear hg ht hp hs
    by_cases hlt : j < R
    · have HJR : Hid (j < R) := by unfold Hid; omega
      have hjm : j ≤ 512 := by omega
      have HKlt : Hid (k < m) := by unfold Hid; omega
      clear hj hk
      go_wp2
      refine wp_region_chainL (fun w' => Below wr.heap.size wr w') 5 [(0, 0), (0, 1), (0, 2), (0, 4), (1, 3), (3, 5)] (by kernel_rfl) (by kernel_rfl) (by kernel_rfl) (fun _ _ _ _ _ h => h) ?_ ?_
      · exact (Below.refl _ _).drewN 1
      refine chainL_take (v := ?_) (by simp only [List.getElem?_toArray, List.getElem?_cons_zero]; rfl) (by rfl) (fun w hS => ?_) ?_
      rotate_left
      · go_simp <;> with_reducible rfl
      simp only [Act.put, List.setIfInBounds_toArray, List.set_cons_zero, List.set_cons_succ]
      refine chainL_take (v := ?_) (by simp only [List.getElem?_toArray, List.getElem?_cons_zero, List.getElem?_cons_succ]; rfl) (by rfl) (fun w hS => ?_) ?_
      rotate_left
      · go_simp <;> with_reducible rfl
      simp only [Act.put, List.setIfInBounds_toArray, List.set_cons_zero, List.set_cons_succ]
      refine chainL_take (v := ?_) (by simp only [List.getElem?_toArray, List.getElem?_cons_zero, List.getElem?_cons_succ]; rfl) (by rfl) (fun w hS => ?_) ?_
      rotate_left
      · go_simp <;> with_reducible rfl
      simp only [Act.put, List.setIfInBounds_toArray, List.set_cons_zero, List.set_cons_succ]
      refine chainL_take (v := ?_) (by simp only [List.getElem?_toArray, List.getElem?_cons_zero, List.getElem?_cons_succ]; rfl) (by rfl) (fun w hS => ?_) ?_
      rotate_left
      · obtain ⟨a0, a1, a2, -⟩ := cells3 (HPk.out.later hS); go_simp <;> with_reducible rfl
      simp only [Act.put, List.setIfInBounds_toArray, List.set_cons_zero, List.set_cons_succ]
      refine chainL_alone (by simp only [List.getElem?_toArray, List.getElem?_cons_zero, List.getElem?_cons_succ]; rfl) ?_
      intro K hK
      go_wp2_with fail
      refine (cols_any (HGk.out.later ((Below.refl _ _).drewN 1)) hR).mono ?_
      rintro e k1 ⟨rfl, rfl⟩
      go_wp2
      refine hK.out _ _ ((Below.refl _ _).drewN 1) ?_
      clear hK K
      refine chainL_late (by simp only [List.getElem?_toArray, List.getElem?_cons_zero, List.getElem?_cons_succ]; rfl) ?_
      intro K hK
      go_wp2_with fail
      refine (gerase_any (HGk.out.later ((Below.refl _ _).drewN 1)) hC2 HSk.out.drew (j : Int) 0 C f y b).mono ?_
      rintro e k1 ⟨rfl, hg, ht⟩
      have HG1 := hide hg
      have HT0 := hide ht
      clear hg ht
      go_wp2
      refine hK.out _ _ ?_
      clear hK K
      refine chainL_nil ?_
      have HGn : Hid (Grd k1 G L2 M R C (rotG g R C m come (k + 1) ⟨f, y, b⟩)) := by unfold Hid; rw [← rotG_next g R C m come k j ⟨f, y, b⟩ HJ.out HPR.out HJR.out HLs.out (by omega)]; exact HG1.out
      have HTn : Hid (Trn G L M w k1) := by unfold Hid; exact HTk.out.trans (Trn.ofB ((Below.refl wr.heap.size wr).drewN 1) HT0.out) (.inr HL2n.out)
      have HSn : Hid (Spans k1) := by unfold Hid; exact HSk.out.drew.turn (HGk.out.later ((Below.refl _ _).drewN 1)) hR HT0.out
      have HPn : Hid (Whole k1 w.heap.size 65 [.int .u8 (f : Int), .int .u8 (y : Int), .int .u8 (b : Int)]) := by
        unfold Hid
        obtain ⟨_, _, _, _, hat⟩ := HGk.out
        exact HT0.out.whole HPk.out.drew (HPk.out.ne hat.top (by decide)) (HPk.out.ne hat.lines (by decide)) (HPk.out.ne hat.piece (by decide))
      go_wp2
      go_roundw
      case rel => exact ⟨j + 1, k + 1, by rw [HJ.out]; omega, HKlt.out, by go_num, HGn.out, HTn.out, HPn.out, HSn.out⟩
      case measure => simp [intOf]; omega
    · obtain rfl : k = m := by omega
      clear hj hk
      go_wp2
      exact bodyPost_end (v := .tuple #[]) (by simp [results, Tryz.results148]) rfl ⟨rfl, L2, by rw [← HEnd.out]; exact HGk.out, HTk.out, .inr HL2n.out⟩
set_option maxHeartbeats 4000000 in
theorem scroll_down (h : Grd w G L M R C g) (hR : 1 ≤ R) (hR2 : R ≤ 512) (hC : 1 ≤ C) (hC2 : C ≤ 512) (hS : Spans w) (n : Int) (f y b : Nat) (hp : rightN ⟨f, y, b⟩ = true) (m up : Nat) (hm : m ≤ R) (hup : R - m = up) (hm1 : 1 ≤ m) (hn : clampI n R = -(m : Int)) :
    Calls Tryz.prog 148 #[.pointer (some ⟨G, 0, none⟩), .int .i64 n, .agg #[.int .u8 (f : Int), .int .u8 (y : Int), .int .u8 (b : Int)]] w (Scrolled R C (scrollG g C n ⟨f, y, b⟩) w G L M) := by
  obtain ⟨W0, hW0⟩ : ∃ W0, w.alloc (.cells #[.int .u8 (f : Int), .int .u8 (y : Int), .int .u8 (b : Int)] 65) = W0 := ⟨_, rfl⟩
  have HB0 : Hid (Below w.heap.size w W0) := by unfold Hid; rw [← hW0]; exact (Below.refl _ _).alloc (Nat.le_refl _) _
  have HS0 : Hid (Spans W0) := by unfold Hid; rw [← hW0]; exact hS.alloc _
  have HP0 : Hid (Whole W0 w.heap.size 65 [.int .u8 (f : Int), .int .u8 (y : Int), .int .u8 (b : Int)]) := by unfold Hid; rw [← hW0]; exact Whole.new w 65 [.int .u8 (f : Int), .int .u8 (y : Int), .int .u8 (b : Int)]
  have HEnd : Hid (rotG g R C up 0 m ⟨f, y, b⟩ = scrollG g C n ⟨f, y, b⟩) := by unfold Hid; rw [← hup]; exact rotG_down g R C m n ⟨f, y, b⟩ hp h.glen hn hm
  have HLs : Hid (∀ i, i < R → (lAt g.ls i).length = C) := by unfold Hid; obtain ⟨_, _, _, _, ha⟩ := h; exact fun i hi => ha.lenAt hi
  have HltG := hide h.ltG
  have HltL := hide h.ltL
  have HltM := hide h.ltM
  have HPR := hide hp
  have HW0 := hide hW0
  have HG0 := hide (h.later HB0.out)
  have hcl : min (max n (-(R : Int))) (R : Int) = -(m : Int) := hn
  have hi1 : (R : Int) + -(m : Int) = (up : Int) := by omega
  have hi2 : -(m : Int) < 0 := by omega
  have hi3 : up ≤ R := by omega
  have hup0 := hide hup
  obtain ⟨a0, a1, a2, lP⟩ := cells3 HP0.out
  clear hW0 h hn hp hS hup
  go_enter Tryz.func148, Tryz.ntmps148
  go_wp2_with fail
  rw [HW0.out]
  refine (right_any f y b W0).mono ?_
  rintro e W1 ⟨rfl, hb⟩
  rw [HPR.out]
  have HB := hide (HB0.out.trans (hb.mono HB0.out.size))
  have HS := hide (HS0.out.below hb)
  have HP := hide (HP0.out.later hb)
  have HG := hide (HG0.out.later hb)
  clear a0 a1 a2 lP hb HB0 HS0 HP0 HG0
  obtain ⟨cap, ps, room, more, ha⟩ := HG.out
  have HA := hide ha
  obtain ⟨c0, c1, c2, lG, lL, lM⟩ := ha.three
  have hcap := ha.cap1
  have hcap2 := ha.cap2
  unfold maxLen at hcap2
  obtain ⟨A1, hA1⟩ : ∃ A1 : Addr, (if cap = up then (⟨L, 0, none⟩ : Addr) else ⟨L, up, none⟩) = A1 := ⟨_, rfl⟩
  have HV1 := hide (ha.vals (up := up) (by omega) hA1.symm).1
  have HV2 := hide (ha.vals (up := up) (by omega) hA1.symm).2
  have HA1 := hide hA1
  clear hA1 ha
  go_wp2
  refine wp_region_chainL (fun w' => Below W1.heap.size W1 w') 17 [(0, 0), (0, 1), (0, 5), (0, 7), (0, 11), (0, 2), (0, 3), (0, 8), (0, 9), (0, 4), (0, 6), (1, 10), (1, 12), (1, 13), (1, 14), (1, 15), (1, 16), (3, 17)] (by kernel_rfl) (by kernel_rfl) (by kernel_rfl) (fun _ _ _ _ _ h => h) ?_ ?_
  · exact (Below.refl _ _).drewN 1
  refine chainL_take (v := ?_) (by simp only [List.getElem?_toArray, List.getElem?_cons_zero]; rfl) (by rfl) (fun w hS => ?_) ?_
  rotate_left
  · go_simp <;> with_reducible rfl
  simp only [Act.put, List.setIfInBounds_toArray, List.set_cons_zero, List.set_cons_succ]
  refine chainL_take (v := ?_) (by simp only [List.getElem?_toArray, List.getElem?_cons_zero, List.getElem?_cons_succ]; rfl) (by rfl) (fun w hS => ?_) ?_
  rotate_left
  · go_simp <;> with_reducible rfl
  simp only [Act.put, List.setIfInBounds_toArray, List.set_cons_zero, List.set_cons_succ]
  refine chainL_take (v := ?_) (by simp only [List.getElem?_toArray, List.getElem?_cons_zero, List.getElem?_cons_succ]; rfl) (by rfl) (fun w hS => ?_) ?_
  rotate_left
  · go_simp <;> with_reducible rfl
  simp only [Act.put, List.setIfInBounds_toArray, List.set_cons_zero, List.set_cons_succ]
  refine chainL_take (v := ?_) (by simp only [List.getElem?_toArray, List.getElem?_cons_zero, List.getElem?_cons_succ]; rfl) (by rfl) (fun w hS => ?_) ?_
  rotate_left
  · go_simp <;> with_reducible rfl
  simp only [Act.put, List.setIfInBounds_toArray, List.set_cons_zero, List.set_cons_succ]
  refine chainL_take (v := ?_) (by simp only [List.getElem?_toArray, List.getElem?_cons_zero, List.getElem?_cons_succ]; rfl) (by rfl) (fun w hS => ?_) ?_
  rotate_left
  · go_simp <;> with_reducible rfl
  simp only [Act.put, List.setIfInBounds_toArray, List.set_cons_zero, List.set_cons_succ]
  refine chainL_take (v := ?_) (by simp only [List.getElem?_toArray, List.getElem?_cons_zero, List.getElem?_cons_succ]; rfl) (by rfl) (fun w hS => ?_) ?_
  rotate_left
  · go_simp <;> with_reducible rfl
  simp only [Act.put, List.setIfInBounds_toArray, List.set_cons_zero, List.set_cons_succ]
  refine chainL_take (v := ?_) (by simp only [List.getElem?_toArray, List.getElem?_cons_zero, List.getElem?_cons_succ]; rfl) (by rfl) (fun w hS => ?_) ?_
  rotate_left
  · go_simp <;> with_reducible rfl
  simp only [Act.put, List.setIfInBounds_toArray, List.set_cons_zero, List.set_cons_succ]
  refine chainL_take (v := ?_) (by simp only [List.getElem?_toArray, List.getElem?_cons_zero, List.getElem?_cons_succ]; rfl) (by rfl) (fun w hS => ?_) ?_
  rotate_left
  · go_simp <;> with_reducible rfl
  simp only [Act.put, List.setIfInBounds_toArray, List.set_cons_zero, List.set_cons_succ]
  refine chainL_take (v := ?_) (by simp only [List.getElem?_toArray, List.getElem?_cons_zero, List.getElem?_cons_succ]; rfl) (by rfl) (fun w hS => ?_) ?_
  rotate_left
  · go_simp <;> with_reducible rfl
  simp only [Act.put, List.setIfInBounds_toArray, List.set_cons_zero, List.set_cons_succ]
  refine chainL_take (v := ?_) (by simp only [List.getElem?_toArray, List.getElem?_cons_zero, List.getElem?_cons_succ]; rfl) (by rfl) (fun w hS => ?_) ?_
  rotate_left
  · obtain ⟨b0, b1, b2, -⟩ := cells3 (HA.out.top.later hS); go_simp <;> with_reducible rfl
  simp only [Act.put, List.setIfInBounds_toArray, List.set_cons_zero, List.set_cons_succ]
  refine chainL_take (v := .slice (some A1) (R - up) (cap - up)) (by simp only [List.getElem?_toArray, List.getElem?_cons_zero, List.getElem?_cons_succ]; rfl) (by rfl) (fun w hS => ?_) ?_
  · rw [← HA1.out]
    go_simp
    split <;> rfl
  simp only [Act.put, List.setIfInBounds_toArray, List.set_cons_zero, List.set_cons_succ]
  refine chainL_alone (by simp only [List.getElem?_toArray, List.getElem?_cons_zero, List.getElem?_cons_succ]; rfl) ?_
  intro K hK
  go_wp2
  refine hK.out _ _ ((Below.refl _ _).drewN 1) ?_
  clear hK K
  refine chainL_alone (by simp only [List.getElem?_toArray, List.getElem?_cons_zero, List.getElem?_cons_succ]; rfl) ?_
  intro K hK
  go_wp2
  refine hK.out _ _ ((Below.refl _ _).drewN 1) ?_
  clear hK K
  refine chainL_alone (by simp only [List.getElem?_toArray, List.getElem?_cons_zero, List.getElem?_cons_succ]; rfl) ?_
  intro K hK
  go_wp2
  refine hK.out _ _ (((Below.refl _ _).alloc (Nat.le_refl _) _).drewN 1) ?_
  clear hK K
  refine chainL_alone (by simp only [List.getElem?_toArray, List.getElem?_cons_zero, List.getElem?_cons_succ]; rfl) ?_
  intro K hK
  go_wp2_with fail
  refine (concat_any W1.heap.size A1 ⟨L, 0, none⟩ (R - up) up (cap - up) cap (((rowsV M C ps R).drop up)) ((rowsV M C ps R).take up) _ ?_ (HV1.out.below ?_) (HV2.out.below ?_) (by rw [List.length_drop, rowsV_len]) (by rw [List.length_take, rowsV_len]; omega) (by omega) (by omega)).mono ?_
  · exact (Whole.new W1 109 [.slice (some A1) (R - up) (cap - up), .slice (some ⟨L, 0, none⟩) up cap]).drewN 1
  · exact ((Below.refl _ _).alloc (Nat.le_refl _) _).drewN 1
  · exact ((Below.refl _ _).alloc (Nat.le_refl _) _).drewN 1
  rintro e k1 ⟨v, rfl, hown⟩
  obtain ⟨L2, cap2, more2, rfl, hL2, hw2, hc2, hm2⟩ := hown.form (by intro q; have := congrArg List.length q; rw [List.length_append, List.length_drop, List.length_take, rowsV_len] at this; simp at this; omega)
  have Bk1 : Below W1.heap.size W1 k1 := (((Below.refl W1.heap.size W1).alloc (Nat.le_refl _) _).drewN 1).trans (hown.bel.mono (by simp))
  rw [show ((rowsV M C ps R).drop up ++ (rowsV M C ps R).take up).length = R by rw [List.length_append, List.length_drop, List.length_take, rowsV_len]; omega] at hc2 ⊢
  have HW2 := hide hw2
  have HL2 : Hid (W1.heap.size ≤ L2) := by unfold Hid; have : (W1.alloc (.cells #[.slice (some A1) (R - up) (cap - up), .slice (some ⟨L, 0, none⟩) up cap] 109)).heap.size ≤ L2 := hL2; simp at this; omega
  have HC2 := hide hc2
  have HM2 := hide hm2
  have HBk := hide Bk1
  have HAk := hide (HA.out.later Bk1)
  clear hw2 hL2 hc2 hm2 hown c0 c1 c2 lG lL lM
  obtain ⟨b0, b1, b2, lG⟩ := cells3 HAk.out.top
  have hz := HAk.out.top.frozen
  go_wp2
  refine hK.out _ _ (Bk1) ?_
  clear hK K
  refine chainL_alone (by simp only [List.getElem?_toArray, List.getElem?_cons_zero, List.getElem?_cons_succ]; rfl) ?_
  intro K hK
  go_wp2
  refine hK.out _ _ (Bk1) ?_
  clear hK K
  refine chainL_alone (by simp only [List.getElem?_toArray, List.getElem?_cons_zero, List.getElem?_cons_succ]; rfl) ?_
  intro K hK
  go_wp2
  refine hK.out _ _ (Bk1) ?_
  clear hK K
  refine chainL_late (by simp only [List.getElem?_toArray, List.getElem?_cons_zero, List.getElem?_cons_succ]; rfl) ?_
  intro K hK
  go_wp2
  refine hK.out _ _ ?_
  clear hK K
  refine chainL_nil ?_
  have HA2 := hide (HAk.out.rot (up := up) (come := 0) (p := ⟨f, y, b⟩) (by omega) HW2.out HC2.out HM2.out)
  obtain ⟨W2, hW2⟩ : ∃ W2, k1.setCell ⟨G, 2, none⟩ (.slice (some ⟨L2, 0, none⟩) R cap2) = W2 := ⟨_, rfl⟩
  rw [hW2] at HA2 ⊢
  have HT2 : Hid (Trn G L M w W2) := by unfold Hid; rw [← hW2]; exact Trn.ofB (HB.out.trans (HBk.out.mono HB.out.size)) (Trn.of_onlyG (Only.put _ _))
  have HP2 : Hid (Whole W2 w.heap.size 65 [.int .u8 (f : Int), .int .u8 (y : Int), .int .u8 (b : Int)]) := by unfold Hid; rw [← hW2]; exact (HP.out.later HBk.out).far (Only.put _ _) ((HP.out.later HBk.out).ne HAk.out.top (by decide))
  have HS2 : Hid (Spans W2) := by unfold Hid; rw [← hW2]; exact (HS.out.below HBk.out).turn (.of HAk.out) hR (Trn.of_onlyG (Only.put _ _))
  have HL2n : Hid (w.heap.size ≤ L2) := by unfold Hid; exact Nat.le_trans HB.out.size HL2.out
  clear hW2 b0 b1 b2 lG hz Bk1
  go_wp2
  go_loopw [9] (fun i wr => ∃ (j k : Nat), j = 0 + k ∧ k ≤ m ∧ i = .int .i64 (j : Int) ∧ Grd wr G L2 M R C (rotG g R C up 0 k ⟨f, y, b⟩) ∧ Trn G L M w wr ∧ Whole wr w.heap.size 65 [.int .u8 (f : Int), .int .u8 (y : Int), .int .u8 (b : Int)] ∧ Spans wr) (fun i _ => m - (intOf i).toNat)
  case atStart => exact ⟨0, 0, rfl, Nat.zero_le _, rfl, .of HA2.out, HT2.out, HP2.out, HS2.out⟩
  case round =>
    obtain ⟨j, k, hj, hk, rfl, hg, ht, hp, hs⟩ := hrel
    have HJ := hide hj
    have HGk := hide hg
    have HTk := hide ht
    have HPk := hide hp
    have HSk := hide hs
    have HKm := hide hk
    clear hg ht hp hs
    by_cases hlt : j < m
    · have HJR : Hid (j < R) := by unfold Hid; omega
      have hjm : j ≤ 512 := by omega
      have HKlt : Hid (k < m) := by unfold Hid; omega
      clear hj hk
      go_wp2
      refine wp_region_chainL (fun w' => Below wr.heap.size wr w') 5 [(0, 0), (0, 1), (0, 2), (0, 4), (1, 3), (3, 5)] (by kernel_rfl) (by kernel_rfl) (by kernel_rfl) (fun _ _ _ _ _ h => h) ?_ ?_
      · exact (Below.refl _ _).drewN 1
      refine chainL_take (v := ?_) (by simp only [List.getElem?_toArray, List.getElem?_cons_zero]; rfl) (by rfl) (fun w hS => ?_) ?_
      rotate_left
      · go_simp <;> with_reducible rfl
      simp only [Act.put, List.setIfInBounds_toArray, List.set_cons_zero, List.set_cons_succ]
      refine chainL_take (v := ?_) (by simp only [List.getElem?_toArray, List.getElem?_cons_zero, List.getElem?_cons_succ]; rfl) (by rfl) (fun w hS => ?_) ?_
      rotate_left
      · go_simp <;> with_reducible rfl
      simp only [Act.put, List.setIfInBounds_toArray, List.set_cons_zero, List.set_cons_succ]
      refine chainL_take (v := ?_) (by simp only [List.getElem?_toArray, List.getElem?_cons_zero, List.getElem?_cons_succ]; rfl) (by rfl) (fun w hS => ?_) ?_
      rotate_left
      · go_simp <;> with_reducible rfl
      simp only [Act.put, List.setIfInBounds_toArray, List.set_cons_zero, List.set_cons_succ]
      refine chainL_take (v := ?_) (by simp only [List.getElem?_toArray, List.getElem?_cons_zero, List.getElem?_cons_succ]; rfl) (by rfl) (fun w hS => ?_) ?_
      rotate_left
      · obtain ⟨a0, a1, a2, -⟩ := cells3 (HPk.out.later hS); go_simp <;> with_reducible rfl
      simp only [Act.put, List.setIfInBounds_toArray, List.set_cons_zero, List.set_cons_succ]
      refine chainL_alone (by simp only [List.getElem?_toArray, List.getElem?_cons_zero, List.getElem?_cons_succ]; rfl) ?_
      intro K hK
      go_wp2_with fail
      refine (cols_any (HGk.out.later ((Below.refl _ _).drewN 1)) hR).mono ?_
      rintro e k1 ⟨rfl, rfl⟩
      go_wp2
      refine hK.out _ _ ((Below.refl _ _).drewN 1) ?_
      clear hK K
      refine chainL_late (by simp only [List.getElem?_toArray, List.getElem?_cons_zero, List.getElem?_cons_succ]; rfl) ?_
      intro K hK
      go_wp2_with fail
      refine (gerase_any (HGk.out.later ((Below.refl _ _).drewN 1)) hC2 HSk.out.drew (j : Int) 0 C f y b).mono ?_
      rintro e k1 ⟨rfl, hg, ht⟩
      have HG1 := hide hg
      have HT0 := hide ht
      clear hg ht
      go_wp2
      refine hK.out _ _ ?_
      clear hK K
      refine chainL_nil ?_
      have HGn : Hid (Grd k1 G L2 M R C (rotG g R C up 0 (k + 1) ⟨f, y, b⟩)) := by unfold Hid; rw [← rotG_next g R C up 0 k j ⟨f, y, b⟩ HJ.out HPR.out HJR.out HLs.out (by omega)]; exact HG1.out
      have HTn : Hid (Trn G L M w k1) := by unfold Hid; exact HTk.out.trans (Trn.ofB ((Below.refl wr.heap.size wr).drewN 1) HT0.out) (.inr HL2n.out)
      have HSn : Hid (Spans k1) := by unfold Hid; exact HSk.out.drew.turn (HGk.out.later ((Below.refl _ _).drewN 1)) hR HT0.out
      have HPn : Hid (Whole k1 w.heap.size 65 [.int .u8 (f : Int), .int .u8 (y : Int), .int .u8 (b : Int)]) := by
        unfold Hid
        obtain ⟨_, _, _, _, hat⟩ := HGk.out
        exact HT0.out.whole HPk.out.drew (HPk.out.ne hat.top (by decide)) (HPk.out.ne hat.lines (by decide)) (HPk.out.ne hat.piece (by decide))
      go_wp2
      go_roundw
      case rel => exact ⟨j + 1, k + 1, by rw [HJ.out]; omega, HKlt.out, by go_num, HGn.out, HTn.out, HPn.out, HSn.out⟩
      case measure => simp [intOf]; omega
    · obtain rfl : k = m := by omega
      clear hj hk
      go_wp2
      exact bodyPost_end (v := .tuple #[]) (by simp [results, Tryz.results148]) rfl ⟨rfl, L2, by rw [← HEnd.out]; exact HGk.out, HTk.out, .inr HL2n.out⟩

end
end Go.Proofs.YtkijclgbpbhglaaGreatDoor

namespace Go.Proofs.YtkijclgbpbhglaaGreatDoor
set_option maxRecDepth 100000
open Go.ChangeShapes Go.WideShapes Go.ChangeAt Go.RowKit
set_option linter.unusedVariables false

/-- The call gave a grid, all new. -/
def GaveG (R C : Nat) (g : Gd) (w : World) (e : Ending) (w' : World) : Prop := ∃ G L M, e = .returned (.pointer (some ⟨G, 0, none⟩)) ∧ NewGrd R C g w G L M w'
/-- .. and no error. -/
def GaveG2 (R C : Nat) (g : Gd) (w : World) (e : Ending) (w' : World) : Prop := ∃ G L M, e = .returned (.tuple #[.pointer (some ⟨G, 0, none⟩), .int .i64 0]) ∧ NewGrd R C g w G L M w'
theorem new1_any (k q C : Nat) (A : Option Addr) (c : Nat) (z : List Cel) (w : World) (h1 : Whole w q 97 [.slice A C c]) (hc : Cels .i32 w A z) (hn : z.length = C) :
    Calls Tryz.prog 68 #[.int .i64 (k : Int), .pointer (some ⟨q, 0, none⟩)] w (Tells C z w) := by
  have c0 : w.cell? ⟨q, 0, none⟩ = some (.slice A C c) := h1.cell 0
  have lq := h1.lt
  have HC := hide hc
  have HN := hide hn
  clear h1 hc hn
  go_enter Tryz.func68, Tryz.ntmps68
  go_wp2
  go_ret
  exact ⟨A, c, rfl, Below.refl _ _, HC.out, HN.out⟩
theorem sideB_yes {n : Nat} (h1 : 1 ≤ n) (h2 : n ≤ 512) : sideB (n : Int) = true := by unfold sideB; simp; omega
theorem NewGrd.from {R C : Nat} {g : Gd} {w w0 w' : World} {G L M : Nat} (h : NewGrd R C g w0 G L M w') (hb : Below w.heap.size w w0) : NewGrd R C g w G L M w' := by
  obtain ⟨h1, h2, h3, h4, h5⟩ := h
  exact ⟨h1, hb.trans (h2.mono hb.size), Nat.le_trans hb.size h3, Nat.le_trans hb.size h4, Nat.le_trans hb.size h5⟩
set_option maxHeartbeats 2000000 in
theorem gnew_yes (R C : Nat) (r1 : 1 ≤ R) (r2 : R ≤ 512) (c1 : 1 ≤ C) (c2 : C ≤ 512) (w : World) :
    Calls Tryz.prog 35 #[.int .i64 (R : Int), .int .i64 (C : Int)] w (GaveG2 R C (newG R C) w) := by
  go_enter Tryz.func35, Tryz.ntmps35
  go_wp2_with fail
  refine (side_any R w).mono ?_
  rintro e w1 ⟨rfl, rfl⟩
  rw [sideB_yes r1 r2]
  go_wp2_with fail
  refine (side_any C w).mono ?_
  rintro e w1 ⟨rfl, rfl⟩
  rw [sideB_yes c1 c2]
  go_wp2_with fail
  refine (new_v (C : Int) rfl (lenN_nat C c2) w).mono ?_
  rintro e w1 ⟨A, c, rfl, hc, hb⟩
  obtain ⟨W0, hW0⟩ : ∃ W0, w1.alloc (.cells #[.slice A C c] 97) = W0 := ⟨_, rfl⟩
  have HX : Hid (Whole W0 w1.heap.size 97 [.slice A C c]) := by unfold Hid; rw [← hW0]; exact Whole.new w1 97 [.slice A C c]
  have HC : Hid (Cels .i32 W0 A (newC (C : Int))) := by unfold Hid; rw [← hW0]; exact hc.alloc _
  have HB : Hid (Below w.heap.size w W0) := by unfold Hid; rw [← hW0]; exact hb.alloc hb.size _
  have HW0 := hide hW0
  clear hW0 hc hb
  go_wp2_with fail
  rw [HW0.out]
  refine (made_any R C r2 c1 c2 68 _ (fun _ => newC (C : Int)) W0 (enter_of Tryz.func68 (by kernel_rfl) (by kernel_rfl)) ?_).mono ?_
  · intro k wr hk hb args hargs
    have ha2 : args = #[.int .i64 (k : Int), .pointer (some ⟨w1.heap.size, 0, none⟩)] := by simpa using hargs
    subst ha2
    exact new1_any k _ C A c _ wr (HX.out.later hb) (HC.out.below hb) (newC_len C c2)
  rintro e w2 ⟨G, L, M, rfl, hg⟩
  have HG := hide (hg.from HB.out)
  clear hg
  go_wp2
  go_ret2
  exact ⟨G, L, M, rfl, HG.out⟩
theorem gnew_no (r c : Int) (h : ¬ sizeN r c) (w : World) : Calls Tryz.prog 35 #[.int .i64 r, .int .i64 c] w fun e w' => e = .returned (.tuple #[.pointer none, .int .i64 11]) ∧ w = w' := by
  by_cases h1 : sideB r = true
  · have h2 : sideB c = false := by
      unfold sideB at *
      simp only [decide_eq_true_eq] at h1
      simp only [decide_eq_false_iff_not]
      intro q
      exact h ⟨h1, q⟩
    have H1 := hide h1
    have H2 := hide h2
    clear h1 h2 h
    go_enter Tryz.func35, Tryz.ntmps35
    go_wp2_with fail
    refine (side_any r w).mono ?_
    rintro e w1 ⟨rfl, rfl⟩
    rw [H1.out]
    go_wp2_with fail
    refine (side_any c w).mono ?_
    rintro e w1 ⟨rfl, rfl⟩
    rw [H2.out]
    go_wp2
    go_ret2
    exact ⟨rfl, rfl⟩
  · have H1 : Hid (sideB r = false) := by unfold Hid; simpa using h1
    clear h1 h
    go_enter Tryz.func35, Tryz.ntmps35
    go_wp2_with fail
    refine (side_any r w).mono ?_
    rintro e w1 ⟨rfl, rfl⟩
    rw [H1.out]
    go_wp2
    go_ret2
    exact ⟨rfl, rfl⟩

/-! ### a copy -/
section
variable {w : World} {G L M R C : Nat} {g : Gd}
set_option maxHeartbeats 1000000 in
theorem copy1_any (h : Grd w G L M R C g) (k : Nat) (hk : k < R) {q : Nat} (hq : Whole w q 51 [.pointer (some ⟨G, 0, none⟩)]) :
    Calls Tryz.prog 78 #[.int .i64 (k : Int), .pointer (some ⟨q, 0, none⟩)] w (Tells C (lAt g.ls k) w) := by
  obtain ⟨cap, ps, room, more, h⟩ := h
  obtain ⟨c0, c1, c2, lG, lL, lM⟩ := h.three
  have c3 := h.row hk
  have c4 : w.cell? ⟨q, 0, none⟩ = some (.pointer (some ⟨G, 0, none⟩)) := hq.cell 0
  have lq := hq.lt
  have HC := hide (h.cels hk)
  have HN := hide (h.lenAt hk)
  clear h hq
  go_enter Tryz.func78, Tryz.ntmps78
  go_wp2
  go_ret
  exact ⟨_, C, rfl, Below.refl _ _, HC.out, HN.out⟩
set_option maxHeartbeats 2000000 in
theorem copy_any (h : Grd w G L M R C g) (hR : 1 ≤ R) (hR2 : R ≤ 512) (hC : 1 ≤ C) (hC2 : C ≤ 512) :
    Calls Tryz.prog 41 #[.pointer (some ⟨G, 0, none⟩)] w (GaveG R C g w) := by
  obtain ⟨W0, hW0⟩ : ∃ W0, w.alloc (.cells #[.pointer (some ⟨G, 0, none⟩)] 51) = W0 := ⟨_, rfl⟩
  have HX : Hid (Whole W0 w.heap.size 51 [.pointer (some ⟨G, 0, none⟩)]) := by unfold Hid; rw [← hW0]; exact Whole.new w 51 [.pointer (some ⟨G, 0, none⟩)]
  have HB : Hid (Below w.heap.size w W0) := by unfold Hid; rw [← hW0]; exact (Below.refl _ _).alloc (Nat.le_refl _) _
  have HG := hide (h.later HB.out)
  have HLen := hide h.glen
  have HW0 := hide hW0
  clear hW0 h
  go_enter Tryz.func41, Tryz.ntmps41
  have f0 : W0.cell? ⟨w.heap.size, 0, none⟩ = some (.pointer (some ⟨G, 0, none⟩)) := HX.out.cell 0
  go_wp2
  rw [HW0.out]
  clear f0
  refine wp_region_chainL (fun w' => Below W0.heap.size W0 w') 5 [(0, 0), (0, 2), (0, 4), (1, 1), (1, 3), (3, 5), (3, 6)] (by kernel_rfl) (by kernel_rfl) (by kernel_rfl) (fun _ _ _ _ _ h => h) ?_ ?_
  · exact (Below.refl _ _).drewN 1
  refine chainL_take (v := ?_) (by simp only [List.getElem?_toArray, List.getElem?_cons_zero]; rfl) (by rfl) (fun w hS => ?_) ?_
  rotate_left
  · have f0 := (HX.out.later hS).cell 0; go_simp <;> with_reducible rfl
  simp only [Act.put, List.setIfInBounds_toArray, List.set_cons_zero, List.set_cons_succ]
  refine chainL_take (v := ?_) (by simp only [List.getElem?_toArray, List.getElem?_cons_zero, List.getElem?_cons_succ]; rfl) (by rfl) (fun w hS => ?_) ?_
  rotate_left
  · have f0 := (HX.out.later hS).cell 0; go_simp <;> with_reducible rfl
  simp only [Act.put, List.setIfInBounds_toArray, List.set_cons_zero, List.set_cons_succ]
  refine chainL_take (v := ?_) (by simp only [List.getElem?_toArray, List.getElem?_cons_zero, List.getElem?_cons_succ]; rfl) (by rfl) (fun w hS => ?_) ?_
  rotate_left
  · go_simp <;> with_reducible rfl
  simp only [Act.put, List.setIfInBounds_toArray, List.set_cons_zero, List.set_cons_succ]
  refine chainL_alone (by simp only [List.getElem?_toArray, List.getElem?_cons_zero, List.getElem?_cons_succ]; rfl) ?_
  intro K hK
  go_wp2_with fail
  refine (rows_any (HG.out.later ((Below.refl _ _).drewN 1))).mono ?_
  rintro e k1 ⟨rfl, rfl⟩
  go_wp2
  refine hK.out _ _ ((Below.refl _ _).drewN 1) ?_
  clear hK K
  refine chainL_alone (by simp only [List.getElem?_toArray, List.getElem?_cons_zero, List.getElem?_cons_succ]; rfl) ?_
  intro K hK
  go_wp2_with fail
  refine (cols_any (HG.out.later ((Below.refl _ _).drewN 1)) hR).mono ?_
  rintro e k1 ⟨rfl, rfl⟩
  go_wp2
  refine hK.out _ _ ((Below.refl _ _).drewN 1) ?_
  clear hK K
  refine chainL_late (by simp only [List.getElem?_toArray, List.getElem?_cons_zero, List.getElem?_cons_succ]; rfl) ?_
  intro K hK
  go_wp2_with fail
  refine (made_any R C hR2 hC hC2 78 _ (lAt g.ls) W0.drew (enter_of Tryz.func78 (by kernel_rfl) (by kernel_rfl)) ?_).mono ?_
  · intro k wr hk hb args hargs
    have ha2 : args = #[.int .i64 (k : Int), .pointer (some ⟨w.heap.size, 0, none⟩)] := by simpa using hargs
    subst ha2
    exact copy1_any (HG.out.later (((Below.refl _ _).drewN 1).trans hb)) k hk (HX.out.later (((Below.refl _ _).drewN 1).trans hb))
  rintro e k1 ⟨G1, L1, M1, rfl, hg, hb, n1, n2, n3⟩
  have HG1 := hide hg
  have HBk := hide (((Below.refl W0.heap.size W0).drewN 1).trans hb)
  have HN1 : Hid (W0.heap.size ≤ G1 ∧ W0.heap.size ≤ L1 ∧ W0.heap.size ≤ M1) := ⟨n1, n2, n3⟩
  clear hg hb n1 n2 n3
  go_wp2
  refine hK.out _ _ ?_
  clear hK K
  refine chainL_late (by simp only [List.getElem?_toArray, List.getElem?_cons_zero, List.getElem?_cons_succ]; rfl) ?_
  intro K hK
  go_wp2
  refine hK.out _ _ ?_
  clear hK K
  refine chainL_nil ?_
  have f0 : k1.cell? ⟨w.heap.size, 0, none⟩ = some (.pointer (some ⟨G, 0, none⟩)) := (HX.out.later HBk.out).cell 0
  have l0 := (HX.out.later HBk.out).lt
  obtain ⟨c0, c1, lG⟩ := (HG.out.later HBk.out).cursor
  obtain ⟨cap, ps, room, more, ha⟩ := HG1.out
  obtain ⟨d0, d1, d2, lG1, -, -⟩ := ha.three
  have hz := ha.top.frozen
  have HA := hide ha
  clear ha
  go_wp2
  go_ret
  have hcur := HA.out.cursor g.row g.col
  have e : ({ ls := gtab R (lAt g.ls), row := g.row, col := g.col } : Gd) = g := by
    have : gtab R (lAt g.ls) = g.ls := by rw [← HLen.out]; exact gtab_self _
    rw [this]
  refine ⟨G1, L1, M1, rfl, ?_, ?_, ?_, ?_, ?_⟩
  · rw [← e]; exact .of hcur
  · exact only2.below (HB.out.trans (HBk.out.mono HB.out.size)) (Nat.le_trans HB.out.size HBk.out.size) (Nat.le_trans HB.out.size HN1.out.1)
  · exact Nat.le_trans HB.out.size HN1.out.1
  · exact Nat.le_trans HB.out.size HN1.out.2.1
  · exact Nat.le_trans HB.out.size HN1.out.2.2
/-! ### a grid of another size -/
end
end Go.Proofs.YtkijclgbpbhglaaGreatDoor
