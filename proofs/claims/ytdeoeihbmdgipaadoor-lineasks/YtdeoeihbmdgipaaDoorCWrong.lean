/-
  Contracts: are marks as they may be: the closure, the library's search with it, and the program's.
-/
import Derived.Test.YtdeoeihbmdgipaaDoorCMark
namespace Go.Proofs.YtdeoeihbmdgipaaDoor
open Go.ChangeShapes Go.WideShapes Go.ChangeAt Go.RowKit
set_option linter.unusedVariables false

/-- Is a mark wrong, behind a place where one isn't (z)? -/
def wrongC (z : Bool) (x : Int) : Bool := if x = 0 then false else z || !(wOf x == 0)
theorem wrong_0 (z : Bool) (x : Int) (h : x = 0) : wrongC z x = false := by unfold wrongC; rw [if_pos h]
theorem wrong_n (z : Bool) (x : Int) (h : ¬ x = 0) : wrongC z x = (z || !(wOf x == 0)) := by unfold wrongC; rw [if_neg h]
theorem marks_wrong (m n : Int) : marksC m n = !(wrongC false m || wrongC (m == 0) n) := by
  unfold marksC wrongC
  by_cases h : m = 0
  · subst h
    by_cases h2 : n = 0
    · simp [h2]
    · simp [h2]
  · have e : (m == 0) = false := by simpa using h
    rw [if_neg h, if_neg h, e]
    by_cases h2 : n = 0
    · simp [h2]; rfl
    · simp [h2]; rfl
/-- What the closure leaves. -/
def WrongMark (q : Nat) (z : Bool) (x : Int) (w : World) (e : Ending) (w' : World) : Prop :=
  e = .returned (.bool (wrongC z x)) ∧ Whole w' q 4 [.bool (z || (x == 0))] ∧ Fr w.heap.size q w w'
set_option maxHeartbeats 1000000 in
theorem wrong_any (q : Nat) (z : Bool) (x : Int) (w : World) (hq : Whole w q 4 [.bool z]) (hS : Spans w) : Calls Tryd.prog 64 #[.int .i32 x, .pointer (some ⟨q, 0, none⟩)] w (WrongMark q z x w) := by
  have c0 : w.cell? ⟨q, 0, none⟩ = some (.bool z) := hq.cell 0
  have z0 := hq.frozen 0
  have HQ := hide hq
  have HS := hide hS
  clear hq hS
  by_cases h : x = 0
  · have E := hide (wrong_0 z x h)
    have e0 : (x == 0) = true := by simpa using h
    have E0 := hide e0
    clear h
    go_enter Tryd.func64, Tryd.ntmps64
    go_wp2
    go_ret
    exact ⟨ret_bool E.out.symm, by rw [E0.out, Bool.or_true]; exact HQ.out.put 0 _, Fr.put 0 _⟩
  · have E := hide (wrong_n z x h)
    have e0 : (x == 0) = false := by simpa using h
    have E0 := hide e0
    clear h
    cases z
    · go_enter Tryd.func64, Tryd.ntmps64
      go_wp2_with fail
      refine (mark_any x _ HS.out).mono ?_
      rintro e w1 ⟨rfl, hb⟩
      go_wp2
      go_ret
      exact ⟨ret_bool (by rw [E.out]; rfl), by rw [E0.out]; exact HQ.out.later hb, Fr.of_below hb⟩
    · go_enter Tryd.func64, Tryd.ntmps64
      go_wp2
      go_ret
      exact ⟨ret_bool (by rw [E.out]; rfl), by rw [E0.out]; exact HQ.out, Fr.refl⟩
theorem spans_ne {w : World} {g t : Nat} {x : Value} (hS : Spans w) (h : Whole w g t [x]) : 0 ≠ g := by
  rintro rfl
  have h1 := hS 1 (.int .i32 31) rfl
  rw [Nat.zero_add, h.cell 1] at h1
  cases h1
theorem Fr.spans {g : Nat} {w w' : World} (h : Fr w.heap.size g w w') (hS : Spans w) (hg : 0 ≠ g) : Spans w' := fun j v hv => by
  have := hS j v hv
  rw [← this]
  exact World.cell?_of_block (w := w) (h.block 0 hS.size hg)
theorem Fr.whole {g g2 : Nat} {w w' : World} {t : TypeId} {l : List Value} (h : Fr w.heap.size g w w') (hw : Whole w g2 t l) (hne : g2 ≠ g) : Whole w' g2 t l := (h.block g2 hw.lt hne).trans hw
/-- What the search leaves. -/
def FoundMark (q : Nat) (m n : Int) (w : World) (e : Ending) (w' : World) : Prop :=
  e = .returned (.int .i64 (if wrongC false m = true then 0 else if wrongC (m == 0) n = true then 1 else -1)) ∧ Fr w.heap.size q w w'
set_option maxHeartbeats 1000000 in
theorem indexf_any (q a : Nat) (m n : Int) (w : World) (hq : Whole w q 4 [.bool false]) (ha : Whole w a 23 [.int .i32 m, .int .i32 n]) (hne : a ≠ q) (hS : Spans w) :
    Calls Tryd.prog 69 #[.slice (some ⟨a, 0, none⟩) 2 2, .func (.func 64) #[] #[.pointer (some ⟨q, 0, none⟩)]] w (FoundMark q m n w) := by
  have hg0 := spans_ne hS hq
  have HQ := hide hq
  have HA := hide ha
  have HS := hide hS
  clear hq ha hS
  go_enter Tryd.func69, Tryd.ntmps69
  go_wp2
  go_loopw [5, 8] (fun _ i wr => ((i = .int .i64 0 ∧ Whole wr q 4 [.bool false]) ∨ (i = .int .i64 1 ∧ Hid (wrongC false m = false) ∧ Whole wr q 4 [.bool (m == 0)]) ∨ (i = .int .i64 2 ∧ Hid (wrongC false m = false) ∧ Hid (wrongC (m == 0) n = false))) ∧ Fr w.heap.size q w wr) (fun _ i _ => 2 - (intOf i).toNat)
  case atStart => exact ⟨.inl ⟨rfl, HQ.out⟩, Fr.refl⟩
  case round =>
    obtain ⟨hcase, hfr⟩ := hrel
    have HFR := hide hfr
    have HA2 := hide (hfr.whole HA.out hne)
    have HS2 := hide (hfr.spans HS.out hg0)
    clear hfr
    have a0 : wr.cell? ⟨a, 0, none⟩ = some (.int .i32 m) := HA2.out.cell 0
    have a1 : wr.cell? ⟨a, 1, none⟩ = some (.int .i32 n) := HA2.out.cell 1
    rcases hcase with ⟨rfl, hq⟩ | ⟨rfl, H1, hq⟩ | ⟨rfl, H1, H2⟩
    · have HC := hide (wrong_any q false m wr hq HS2.out)
      clear hq
      cases hw : wrongC false m
      · have HW := hide hw
        clear hw
        go_wp2_with fail
        refine HC.out.mono ?_
        rintro e w1 ⟨rfl, h2, h3⟩
        rw [HW.out]
        have H2 := hide h2
        have H3 : Hid (Fr w.heap.size q w w1) := HFR.out.trans (h3.less HFR.out.size)
        clear h2 h3
        go_wp2
        go_roundw
        case rel => exact ⟨.inr (.inl ⟨by go_num, by first | exact HW | exact hide trivial, by simpa using H2.out⟩), H3.out⟩
        case measure => simp [intOf]
      · have HW := hide hw
        clear hw
        go_wp2_with fail
        refine HC.out.mono ?_
        rintro e w1 ⟨rfl, h2, h3⟩
        rw [HW.out]
        go_wp2
        go_ret
        exact ⟨ret_int (by rw [HW.out]; rfl), HFR.out.trans (h3.less HFR.out.size)⟩
    · obtain ⟨z, hz⟩ : ∃ z, (m == 0) = z := ⟨_, rfl⟩
      have HZ := hide hz
      rw [hz] at hq
      have HC := hide (wrong_any q z n wr hq HS2.out)
      clear hq hz
      cases hw : wrongC z n
      · have HW := hide hw
        clear hw
        go_wp2_with fail
        refine HC.out.mono ?_
        rintro e w1 ⟨rfl, h2, h3⟩
        rw [HW.out]
        have H3 : Hid (Fr w.heap.size q w w1) := HFR.out.trans (h3.less HFR.out.size)
        clear h2 h3
        go_wp2
        go_roundw
        case rel => exact ⟨.inr (.inr ⟨by go_num, H1, by unfold Hid; rw [HZ.out]; exact HW.out⟩), H3.out⟩
        case measure => simp [intOf]
      · have HW := hide hw
        clear hw
        go_wp2_with fail
        refine HC.out.mono ?_
        rintro e w1 ⟨rfl, h2, h3⟩
        rw [HW.out]
        go_wp2
        go_ret
        exact ⟨ret_int (by rw [H1.out, HZ.out, HW.out]; rfl), HFR.out.trans (h3.less HFR.out.size)⟩
    · go_wp2
      go_ret
      exact ⟨ret_int (by rw [H1.out, H2.out]; rfl), HFR.out⟩
/-- .. -/
def HasWrong (q : Nat) (m n : Int) (w : World) (e : Ending) (w' : World) : Prop := e = .returned (.bool (!marksC m n)) ∧ Fr w.heap.size q w w'
set_option maxHeartbeats 1000000 in
theorem contains_any (q a : Nat) (m n : Int) (w : World) (hq : Whole w q 4 [.bool false]) (ha : Whole w a 23 [.int .i32 m, .int .i32 n]) (hne : a ≠ q) (hS : Spans w) :
    Calls Tryd.prog 65 #[.slice (some ⟨a, 0, none⟩) 2 2, .func (.func 64) #[] #[.pointer (some ⟨q, 0, none⟩)]] w (HasWrong q m n w) := by
  have HC := hide (indexf_any q a m n w hq ha hne hS)
  have HM := hide (marks_wrong m n)
  clear hq ha hS
  obtain ⟨x, hx⟩ : ∃ x, wrongC false m = x := ⟨_, rfl⟩
  obtain ⟨y, hy⟩ : ∃ y, wrongC (m == 0) n = y := ⟨_, rfl⟩
  have HX := hide hx
  have HY := hide hy
  clear hx hy
  cases x <;> cases y
  all_goals
    go_enter Tryd.func65, Tryd.ntmps65
    go_wp2_with fail
    refine HC.out.mono ?_
    rintro e w1 ⟨rfl, h3⟩
    rw [HX.out, HY.out]
    go_wp2
    go_ret
    exact ⟨ret_bool (by rw [HM.out, HX.out, HY.out]; rfl), h3⟩
set_option maxHeartbeats 1000000 in
theorem rmarks_any (m n : Int) (w : World) (hS : Spans w) : Calls Tryd.prog 56 #[.agg #[.int .i32 m, .int .i32 n]] w (Said (marksC m n) w) := by
  obtain ⟨W0, hW0⟩ : ∃ W0, (w.alloc (.cells #[.int .i32 m, .int .i32 n] 23)).alloc (.cells #[.bool false] 4) = W0 := ⟨_, rfl⟩
  have HS : Hid (Spans W0) := by unfold Hid; rw [← hW0]; exact (hS.alloc _).alloc _
  have HB : Hid (Below w.heap.size w W0) := by unfold Hid; rw [← hW0]; exact two_new w _ _ [.int .i32 m, .int .i32 n] [.bool false]
  have HA : Hid (Whole W0 w.heap.size 23 [.int .i32 m, .int .i32 n]) := by unfold Hid; rw [← hW0]; exact (Whole.new w 23 [.int .i32 m, .int .i32 n]).alloc _
  have HQ : Hid (Whole W0 (w.heap.size + 1) 4 [.bool false]) := by unfold Hid; rw [← hW0]; exact whole_snd w _ 4 [.bool false]
  have HZ : Hid (w.heap.size + 1 ≤ W0.heap.size) := by unfold Hid; rw [← hW0]; simp
  have HW0 := hide hW0
  clear hS hW0
  go_enter Tryd.func56, Tryd.ntmps56
  go_wp2_with fail
  rw [HW0.out]
  refine (contains_any (w.heap.size + 1) w.heap.size m n W0 HQ.out HA.out (by omega) HS.out).mono ?_
  rintro e w1 ⟨rfl, h3⟩
  go_wp2
  go_ret
  exact ⟨ret_bool (by simp), HB.out.trans (h3.below (by have := HZ.out; omega) (by omega))⟩
end Go.Proofs.YtdeoeihbmdgipaaDoor
