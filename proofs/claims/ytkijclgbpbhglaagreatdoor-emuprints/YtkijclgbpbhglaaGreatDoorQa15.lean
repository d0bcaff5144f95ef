/-
  Contracts: the numbers of a parser (the program's); the states behind a byte.
-/
import Derived.Test.YtkijclgbpbhglaaGreatDoorQa14
namespace Go.Proofs.YtkijclgbpbhglaaGreatDoor
set_option maxRecDepth 100000
open Go.ChangeShapes Go.WideShapes Go.ChangeAt Go.RowKit
set_option linter.unusedVariables false

/-! ### bytes -/
set_option maxHeartbeats 1000000 in
theorem final_any (c : Int) (w : World) (h0 : 0 ≤ c) (h1 : c ≤ 255) : Calls Tryz.prog 88 #[.int .u8 c] w fun e w' => e = .returned (.bool (finB c)) ∧ w = w' := by
  rcases (by omega : c < 64 ∨ (64 ≤ c ∧ c ≤ 126) ∨ 126 < c) with h | h | h
  · have E : Hid (finB c = false) := by unfold Hid finB; simp; omega
    go_enter Tryz.func88, Tryz.ntmps88
    go_wp2
    go_ret
    exact ⟨ret_bool (by rw [E.out]), rfl⟩
  · have E : Hid (finB c = true) := by unfold Hid finB; simp; omega
    obtain ⟨h2, h3⟩ := h
    go_enter Tryz.func88, Tryz.ntmps88
    go_wp2
    go_ret
    exact ⟨ret_bool (by rw [E.out]), rfl⟩
  · have E : Hid (finB c = false) := by unfold Hid finB; simp; omega
    go_enter Tryz.func88, Tryz.ntmps88
    go_wp2
    go_ret
    exact ⟨ret_bool (by rw [E.out]; simp; omega), rfl⟩
set_option maxHeartbeats 1000000 in
theorem bbet_any (c : Int) (w : World) (h0 : 32 ≤ c) (h1 : c ≤ 255) : Calls Tryz.prog 86 #[.int .u8 c] w fun e w' => e = .returned (.int .i64 (bbetN c)) ∧ w = w' := by
  by_cases h : c ≤ 47
  · have E : Hid (bbetN c = 2) := by unfold Hid bbetN; rw [if_pos h]
    go_enter Tryz.func86, Tryz.ntmps86
    go_wp2
    go_ret
    exact ⟨ret_int (by rw [E.out]), rfl⟩
  · have E : Hid (bbetN c = 0) := by unfold Hid bbetN; rw [if_neg h]
    go_enter Tryz.func86, Tryz.ntmps86
    go_wp2
    go_ret
    exact ⟨ret_int (by rw [E.out]), rfl⟩
set_option maxHeartbeats 1000000 in
theorem besc_any (c : Int) (w : World) (h0 : 32 ≤ c) (h1 : c ≤ 255) : Calls Tryz.prog 85 #[.int .u8 c] w fun e w' => e = .returned (.int .i64 (bescN c)) ∧ w = w' := by
  by_cases h : c = 91
  · subst h
    go_enter Tryz.func85, Tryz.ntmps85
    go_wp2
    go_ret
    exact ⟨rfl, rfl⟩
  · have E : Hid (bescN c = bbetN c) := by unfold Hid bescN; rw [if_neg h]
    have hq : (c == 91) = false := by simp [h]
    go_enter Tryz.func85, Tryz.ntmps85
    go_wp2_with fail
    refine (bbet_any c w h0 h1).mono ?_
    rintro e w1 ⟨rfl, rfl⟩
    go_wp2
    go_ret
    exact ⟨ret_int (by rw [E.out]), rfl⟩

/-! ### the program's parser -/
def tailV (l : List Int) (n : Nat) (st : Int) : List Value := l.map (Value.int .i64) ++ [.int .i64 (n : Int), .int .i64 st]
def Pr (w : World) (g : Nat) (p : Ps) : Prop := ∃ l, Args l p.n ∧ Strm 93 (tailV l (min p.n.length 9) p.st) w g p.h
section
variable {T : TypeId} {R : List Value} {w w' : World} {g : Nat} {h : List Int}
theorem Strm.cellR (s : Strm T R w g h) (i : Nat) (u : Value) (hu : R[i]? = some u) : w.cell? ⟨g, 5 + i, none⟩ = some u := by
  obtain ⟨b, hb, hw, _⟩ := s
  rw [hw.cell, List.getElem?_append_right (by simp [hb]; omega)]
  simp only [List.length_map, hb, show 5 + i - 4 = i + 1 by omega, List.getElem?_cons_succ]
  exact hu
theorem Strm.tail (s : Strm T R w g h) (i : Nat) (u : Value) : Strm T (R.set i u) (w.setCell ⟨g, 5 + i, none⟩ u) g h := by
  obtain ⟨b, hb, hw, h1⟩ := s
  refine ⟨b, hb, ?_, h1⟩
  have := hw.put (5 + i) u
  rw [List.set_append_right _ _ (by simp [hb]; omega)] at this
  simp only [List.length_map, hb, show 5 + i - 4 = i + 1 by omega, List.set_cons_succ] at this
  exact this
theorem Strm.whole (s : Strm T R w g h) : ∃ l, Whole w g T l := by obtain ⟨b, hb, hw, _⟩ := s; exact ⟨_, hw⟩
theorem Strm.same (s : Strm T R w g h) (e : w'.heap[g]? = w.heap[g]?) : Strm T R w' g h := by
  obtain ⟨b, hb, hw, h1⟩ := s
  exact ⟨b, hb, hw.same e, h1⟩
end
theorem tail_num {l : List Int} (hl : l.length = 9) (n : Nat) (st : Int) (i : Nat) (hi : i < 9) : (tailV l n st)[i]? = some (.int .i64 (l.getD i 0)) := by
  unfold tailV
  rw [List.getElem?_append_left (by simp; omega)]
  simp [List.getElem?_eq_getElem (show i < l.length by omega)]
theorem tail_cnt {l : List Int} (hl : l.length = 9) (n : Nat) (st : Int) : (tailV l n st)[9]? = some (.int .i64 (n : Int)) := by
  unfold tailV
  rw [List.getElem?_append_right (by simp; omega)]
  simp [hl]
theorem tail_st {l : List Int} (hl : l.length = 9) (n : Nat) (st : Int) : (tailV l n st)[10]? = some (.int .i64 st) := by
  unfold tailV
  rw [List.getElem?_append_right (by simp; omega)]
  simp [hl]
theorem tail_setn {l : List Int} (hl : l.length = 9) (n : Nat) (st : Int) (i : Nat) (hi : i < 9) (x : Int) : (tailV l n st).set i (.int .i64 x) = tailV (l.set i x) n st := by
  unfold tailV
  rw [List.set_append_left _ _ (by simp; omega), List.map_set]
theorem tail_setc {l : List Int} (hl : l.length = 9) (n m : Nat) (st : Int) : (tailV l n st).set 9 (.int .i64 (m : Int)) = tailV l m st := by
  unfold tailV
  rw [List.set_append_right _ _ (by simp; omega)]
  simp [hl]
theorem tail_sets {l : List Int} (hl : l.length = 9) (n : Nat) (st x : Int) : (tailV l n st).set 10 (.int .i64 x) = tailV l n x := by
  unfold tailV
  rw [List.set_append_right _ _ (by simp; omega)]
  simp [hl]
section
variable {w w' : World} {g : Nat} {p : Ps}
theorem Pr.lt (h : Pr w g p) : g < w.heap.size := by obtain ⟨l, _, hs⟩ := h; exact hs.lt
theorem Pr.st (h : Pr w g p) : w.cell? ⟨g, 15, none⟩ = some (.int .i64 p.st) := by obtain ⟨l, ha, hs⟩ := h; exact hs.cellR 10 _ (tail_st ha.len _ _)
theorem Pr.cnt (h : Pr w g p) : w.cell? ⟨g, 14, none⟩ = some (.int .i64 ((min p.n.length 9 : Nat) : Int)) := by obtain ⟨l, ha, hs⟩ := h; exact hs.cellR 9 _ (tail_cnt ha.len _ _)
theorem Pr.frozen (h : Pr w g p) (i : Nat) : w.frozen? ⟨g, i, none⟩ = false := by obtain ⟨l, ha, hs⟩ := h; exact hs.frozen i
theorem Pr.same (h : Pr w g p) (e : w'.heap[g]? = w.heap[g]?) : Pr w' g p := by obtain ⟨l, ha, hs⟩ := h; exact ⟨l, ha, hs.same e⟩
theorem Pr.later (h : Pr w g p) (hb : Below w.heap.size w w') : Pr w' g p := h.same (hb.block g h.lt)
theorem Pr.drewN (h : Pr w g p) (n : Nat) : Pr (w.drewN n) g p := h
theorem Pr.drew (h : Pr w g p) : Pr w.drew g p := h
theorem Pr.whole (h : Pr w g p) : ∃ l, Whole w g 93 l := by obtain ⟨l, ha, hs⟩ := h; exact hs.whole
theorem Pr.setst (h : Pr w g p) (x : Int) : Pr (w.setCell ⟨g, 15, none⟩ (.int .i64 x)) g ⟨x, p.n, p.h⟩ := by
  obtain ⟨l, ha, hs⟩ := h
  refine ⟨l, ha, ?_⟩
  have := hs.tail 10 (.int .i64 x)
  rw [tail_sets ha.len] at this
  exact this
theorem Pr.stays (h : Pr w g p) (hf : Fr w.heap.size g w w') {t : TypeId} (ht : t ≠ 93) : Stays t w w' := by obtain ⟨l, hw⟩ := h.whole; exact .of_fr hf hw ht
/-- A parser just made. -/
theorem Pr.new (w : World) : Pr (w.alloc (.cells #[.int .u8 0, .int .u8 0, .int .u8 0, .int .u8 0, .int .i64 0, .int .i64 0, .int .i64 0, .int .i64 0, .int .i64 0, .int .i64 0, .int .i64 0, .int .i64 0, .int .i64 0, .int .i64 0, .int .i64 0, .int .i64 0] 93)) w.heap.size p0 :=
  ⟨[0, 0, 0, 0, 0, 0, 0, 0, 0], ⟨rfl, by intro x hx; simp at hx; omega, rfl⟩, [0, 0, 0, 0], rfl, Whole.new w 93 _, rfl, by decide⟩
end

/-! ### its numbers -/
section
variable {w : World} {g : Nat} {p : Ps}
set_option maxHeartbeats 1000000 in
theorem anone_any (h : Pr w g p) : Calls Tryz.prog 83 #[.pointer (some ⟨g, 5, none⟩)] w fun e w' => e = .returned (.tuple #[]) ∧ Pr w' g ⟨p.st, [], p.h⟩ ∧ Fr w.heap.size g w w' := by
  have c1 := h.cnt
  have z1 := h.frozen 14
  have lt := h.lt
  generalize ((min p.n.length 9 : Nat) : Int) = c at c1
  have H1 : Hid (Pr (w.setCell ⟨g, 14, none⟩ (.int .i64 0)) g ⟨p.st, [], p.h⟩) := by
    obtain ⟨l, ha, hs⟩ := h
    refine ⟨l, ha.nil, ?_⟩
    have := hs.tail 9 (.int .i64 ((0 : Nat) : Int))
    rw [tail_setc ha.len] at this
    exact this
  clear h
  go_enter Tryz.func83, Tryz.ntmps83
  go_wp2
  exact bodyPost_end (v := .tuple #[]) (by simp [results, Tryz.results83]) rfl ⟨rfl, H1.out, Fr.put 14 _⟩

set_option maxHeartbeats 2000000 in
theorem abegin_any (h : Pr w g p) : Calls Tryz.prog 170 #[.pointer (some ⟨g, 5, none⟩)] w fun e w' => e = .returned (.tuple #[]) ∧ Pr w' g ⟨p.st, p.n ++ [-1], p.h⟩ ∧ Fr w.heap.size g w w' := by
  have c1 := h.cnt
  have z1 := h.frozen 14
  have lt := h.lt
  by_cases hc : p.n.length < 9
  · obtain ⟨c, hcc⟩ : ∃ c, p.n.length = c := ⟨_, rfl⟩
    rw [hcc, Nat.min_eq_left (by omega : c ≤ 9)] at c1
    have c9 : (c : Int) + 1 ≤ 9 := by omega
    have c0 : (0 : Int) ≤ (c : Int) := by omega
    have c8 : (c : Int) < 9 := by omega
    have S1 : ∃ u, (w.setCell ⟨g, 14, none⟩ (.int .i64 ((c : Int) + 1))).cell? ⟨g, 14, none⟩ = some (.int .i64 ((c : Int) + 1)) ∧ (w.setCell ⟨g, 14, none⟩ (.int .i64 ((c : Int) + 1))).cell? ⟨g, 5 + c, none⟩ = some (.int .i64 u) ∧
        (w.setCell ⟨g, 14, none⟩ (.int .i64 ((c : Int) + 1))).frozen? ⟨g, 5 + c, none⟩ = false ∧ g < (w.setCell ⟨g, 14, none⟩ (.int .i64 ((c : Int) + 1))).heap.size ∧
        Pr ((w.setCell ⟨g, 14, none⟩ (.int .i64 ((c : Int) + 1))).setCell ⟨g, 5 + c, none⟩ (.int .i64 (-1))) g ⟨p.st, p.n ++ [-1], p.h⟩ := by
      obtain ⟨l, ha, hs⟩ := h
      have h1 := hs.tail 9 (.int .i64 ((c + 1 : Nat) : Int))
      rw [tail_setc ha.len] at h1
      have e1 : ((c + 1 : Nat) : Int) = (c : Int) + 1 := by omega
      rw [e1] at h1
      refine ⟨l.getD c 0, ?_, h1.cellR c _ (tail_num ha.len _ _ c (by omega)), h1.frozen _, h1.lt, ?_⟩
      · rw [← e1]; exact h1.cellR 9 _ (tail_cnt ha.len _ _)
      · refine ⟨l.set c (-1), ?_, ?_⟩
        · have := ha.begin
          rw [hcc, Nat.min_eq_left (by omega : c ≤ 8)] at this
          exact this
        · have h2 := h1.tail c (.int .i64 (-1))
          rw [tail_setn ha.len _ _ c (by omega)] at h2
          show Strm _ (tailV _ (min (p.n ++ [-1]).length 9) _) _ _ _
          rw [List.length_append, hcc]
          simp only [List.length_cons, List.length_nil, Nat.zero_add]
          rw [Nat.min_eq_left (by omega : c + 1 ≤ 9)]
          exact h2
    obtain ⟨u, s1, s2, s3, s4, s5⟩ := S1
    have H5 := hide s5
    have HF : Hid (Fr w.heap.size g w ((w.setCell ⟨g, 14, none⟩ (.int .i64 ((c : Int) + 1))).setCell ⟨g, 5 + c, none⟩ (.int .i64 (-1)))) := (Fr.put _ _).trans (Fr.put _ _)
    clear h s5 hcc hc
    have hmn : min ((c : Int) + 1) 9 = (c : Int) + 1 := by omega
    go_enter Tryz.func170, Tryz.ntmps170
    go_wp2
    have t1 : (w.setCell ⟨g, 14, none⟩ (.int .i64 ((c : Int) + 1))).drew.cell? ⟨g, 14, none⟩ = some (.int .i64 ((c : Int) + 1)) := s1
    have t2 : (w.setCell ⟨g, 14, none⟩ (.int .i64 ((c : Int) + 1))).drew.cell? ⟨g, 5 + c, none⟩ = some (.int .i64 u) := s2
    have t3 : (w.setCell ⟨g, 14, none⟩ (.int .i64 ((c : Int) + 1))).drew.frozen? ⟨g, 5 + c, none⟩ = false := s3
    have H6 : Hid (Pr ((w.setCell ⟨g, 14, none⟩ (.int .i64 ((c : Int) + 1))).drew.setCell ⟨g, 5 + c, none⟩ (.int .i64 (-1))) g ⟨p.st, p.n ++ [-1], p.h⟩) := H5.out
    have HF2 : Hid (Fr w.heap.size g w ((w.setCell ⟨g, 14, none⟩ (.int .i64 ((c : Int) + 1))).drew.setCell ⟨g, 5 + c, none⟩ (.int .i64 (-1)))) := ((Fr.put _ _).drewN 1).trans (Fr.put _ _)
    clear s1 s2 s3 s4 H5 HF
    refine wp_region_chain [(true, [0]), (true, [1]), (true, [2]), (true, [3]), (true, [6]), (true, [7]), (false, [4, 5, 8, 9])] (by kernel_rfl) (by kernel_rfl) (by kernel_rfl) (fun _ _ _ _ _ h => h) ?_
    generalize (w.setCell ⟨g, 14, none⟩ (.int .i64 ((c : Int) + 1))).drew = w2 at *
    refine chain_take (v := ?_) (by simp only [pickOps, List.getElem?_toArray, List.getElem?_cons_zero]; rfl) (Or.inl ⟨rfl, fun w => ?_⟩) ?_
    rotate_left
    · go_simp <;> with_reducible rfl
    simp only [Act.put, List.setIfInBounds_toArray, List.set_cons_zero, List.set_cons_succ]
    refine chain_take (v := ?_) (by simp only [pickOps, List.getElem?_toArray, List.getElem?_cons_zero, List.getElem?_cons_succ]; rfl) (Or.inl ⟨rfl, fun w => ?_⟩) ?_
    rotate_left
    · go_simp <;> with_reducible rfl
    simp only [Act.put, List.setIfInBounds_toArray, List.set_cons_zero, List.set_cons_succ]
    refine chain_take (v := ?_) (by simp only [pickOps, List.getElem?_toArray, List.getElem?_cons_zero, List.getElem?_cons_succ]; rfl) (Or.inl ⟨rfl, fun w => ?_⟩) ?_
    rotate_left
    · go_simp <;> with_reducible rfl
    simp only [Act.put, List.setIfInBounds_toArray, List.set_cons_zero, List.set_cons_succ]
    refine chain_take (v := ?_) (by simp only [pickOps, List.getElem?_toArray, List.getElem?_cons_zero, List.getElem?_cons_succ]; rfl) (Or.inl ⟨rfl, fun w => ?_⟩) ?_
    rotate_left
    · go_simp <;> with_reducible rfl
    simp only [Act.put, List.setIfInBounds_toArray, List.set_cons_zero, List.set_cons_succ]
    refine chain_take (v := ?_) (by simp only [pickOps, List.getElem?_toArray, List.getElem?_cons_zero, List.getElem?_cons_succ]; rfl) (Or.inl ⟨rfl, fun w => ?_⟩) ?_
    rotate_left
    · go_simp <;> with_reducible rfl
    simp only [Act.put, List.setIfInBounds_toArray, List.set_cons_zero, List.set_cons_succ]
    refine chain_take (v := ?_) (by simp only [pickOps, List.getElem?_toArray, List.getElem?_cons_zero, List.getElem?_cons_succ]; rfl) (Or.inl ⟨rfl, fun w => ?_⟩) ?_
    rotate_left
    · go_simp <;> with_reducible rfl
    simp only [Act.put, List.setIfInBounds_toArray, List.set_cons_zero, List.set_cons_succ]
    refine chain_alone (by simp only [pickOps, List.getElem?_toArray, List.getElem?_cons_zero, List.getElem?_cons_succ]; rfl) ?_
    intro K hK
    go_wp2
    refine hK.out _ _ ?_
    clear hK K
    refine chain_nil ?_
    exact bodyPost_end (v := .tuple #[]) (by simp [results, Tryz.results170]) rfl ⟨rfl, H6.out, HF2.out⟩
  · rw [Nat.min_eq_right (by omega : 9 ≤ p.n.length)] at c1
    have c1' : w.cell? ⟨g, 14, none⟩ = some (.int .i64 9) := c1
    have S1 : ∃ u, (w.setCell ⟨g, 14, none⟩ (.int .i64 9)).cell? ⟨g, 14, none⟩ = some (.int .i64 9) ∧ (w.setCell ⟨g, 14, none⟩ (.int .i64 9)).cell? ⟨g, 13, none⟩ = some (.int .i64 u) ∧
        (w.setCell ⟨g, 14, none⟩ (.int .i64 9)).frozen? ⟨g, 13, none⟩ = false ∧ g < (w.setCell ⟨g, 14, none⟩ (.int .i64 9)).heap.size ∧
        Pr ((w.setCell ⟨g, 14, none⟩ (.int .i64 9)).setCell ⟨g, 13, none⟩ (.int .i64 (-1))) g ⟨p.st, p.n ++ [-1], p.h⟩ := by
      obtain ⟨l, ha, hs⟩ := h
      have h1 := hs.tail 9 (.int .i64 ((9 : Nat) : Int))
      rw [tail_setc ha.len] at h1
      refine ⟨l.getD 8 0, h1.cellR 9 _ (tail_cnt ha.len _ _), h1.cellR 8 _ (tail_num ha.len _ _ 8 (by omega)), h1.frozen _, h1.lt, ?_⟩
      refine ⟨l.set 8 (-1), ?_, ?_⟩
      · have := ha.begin
        rw [Nat.min_eq_right (by omega : 8 ≤ p.n.length)] at this
        exact this
      · have h2 := h1.tail 8 (.int .i64 (-1))
        rw [tail_setn ha.len _ _ 8 (by omega)] at h2
        show Strm _ (tailV _ (min (p.n ++ [-1]).length 9) _) _ _ _
        rw [Nat.min_eq_right (by rw [List.length_append]; omega)]
        exact h2
    obtain ⟨u, s1, s2, s3, s4, s5⟩ := S1
    have H5 := hide s5
    clear h s5 hc c1
    have hmn : min (10 : Int) 9 = 9 := by decide
    go_enter Tryz.func170, Tryz.ntmps170
    go_wp2
    have t1 : (w.setCell ⟨g, 14, none⟩ (.int .i64 9)).drew.cell? ⟨g, 14, none⟩ = some (.int .i64 9) := s1
    have t2 : (w.setCell ⟨g, 14, none⟩ (.int .i64 9)).drew.cell? ⟨g, 13, none⟩ = some (.int .i64 u) := s2
    have t3 : (w.setCell ⟨g, 14, none⟩ (.int .i64 9)).drew.frozen? ⟨g, 13, none⟩ = false := s3
    have H6 : Hid (Pr ((w.setCell ⟨g, 14, none⟩ (.int .i64 9)).drew.setCell ⟨g, 13, none⟩ (.int .i64 (-1))) g ⟨p.st, p.n ++ [-1], p.h⟩) := H5.out
    have HF2 : Hid (Fr w.heap.size g w ((w.setCell ⟨g, 14, none⟩ (.int .i64 9)).drew.setCell ⟨g, 13, none⟩ (.int .i64 (-1)))) := ((Fr.put _ _).drewN 1).trans (Fr.put _ _)
    clear s1 s2 s3 s4 H5
    refine wp_region_chain [(true, [0]), (true, [1]), (true, [2]), (true, [3]), (true, [6]), (true, [7]), (false, [4, 5, 8, 9])] (by kernel_rfl) (by kernel_rfl) (by kernel_rfl) (fun _ _ _ _ _ h => h) ?_
    generalize (w.setCell ⟨g, 14, none⟩ (.int .i64 9)).drew = w2 at *
    refine chain_take (v := ?_) (by simp only [pickOps, List.getElem?_toArray, List.getElem?_cons_zero]; rfl) (Or.inl ⟨rfl, fun w => ?_⟩) ?_
    rotate_left
    · go_simp <;> with_reducible rfl
    simp only [Act.put, List.setIfInBounds_toArray, List.set_cons_zero, List.set_cons_succ]
    refine chain_take (v := ?_) (by simp only [pickOps, List.getElem?_toArray, List.getElem?_cons_zero, List.getElem?_cons_succ]; rfl) (Or.inl ⟨rfl, fun w => ?_⟩) ?_
    rotate_left
    · go_simp <;> with_reducible rfl
    simp only [Act.put, List.setIfInBounds_toArray, List.set_cons_zero, List.set_cons_succ]
    refine chain_take (v := ?_) (by simp only [pickOps, List.getElem?_toArray, List.getElem?_cons_zero, List.getElem?_cons_succ]; rfl) (Or.inl ⟨rfl, fun w => ?_⟩) ?_
    rotate_left
    · go_simp <;> with_reducible rfl
    simp only [Act.put, List.setIfInBounds_toArray, List.set_cons_zero, List.set_cons_succ]
    refine chain_take (v := ?_) (by simp only [pickOps, List.getElem?_toArray, List.getElem?_cons_zero, List.getElem?_cons_succ]; rfl) (Or.inl ⟨rfl, fun w => ?_⟩) ?_
    rotate_left
    · go_simp <;> with_reducible rfl
    simp only [Act.put, List.setIfInBounds_toArray, List.set_cons_zero, List.set_cons_succ]
    refine chain_take (v := ?_) (by simp only [pickOps, List.getElem?_toArray, List.getElem?_cons_zero, List.getElem?_cons_succ]; rfl) (Or.inl ⟨rfl, fun w => ?_⟩) ?_
    rotate_left
    · go_simp <;> with_reducible rfl
    simp only [Act.put, List.setIfInBounds_toArray, List.set_cons_zero, List.set_cons_succ]
    refine chain_take (v := ?_) (by simp only [pickOps, List.getElem?_toArray, List.getElem?_cons_zero, List.getElem?_cons_succ]; rfl) (Or.inl ⟨rfl, fun w => ?_⟩) ?_
    rotate_left
    · go_simp <;> with_reducible rfl
    simp only [Act.put, List.setIfInBounds_toArray, List.set_cons_zero, List.set_cons_succ]
    refine chain_alone (by simp only [pickOps, List.getElem?_toArray, List.getElem?_cons_zero, List.getElem?_cons_succ]; rfl) ?_
    intro K hK
    go_wp2
    refine hK.out _ _ ?_
    clear hK K
    refine chain_nil ?_
    exact bodyPost_end (v := .tuple #[]) (by simp [results, Tryz.results170]) rfl ⟨rfl, H6.out, HF2.out⟩
end
end Go.Proofs.YtkijclgbpbhglaaGreatDoor
