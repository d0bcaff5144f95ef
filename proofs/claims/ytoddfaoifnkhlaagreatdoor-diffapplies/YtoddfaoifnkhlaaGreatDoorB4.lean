/-
  Contracts and plain mathematics of CMark, CWrong, CRight, CRRight, CRMark.
-/
import Derived.Test.YtoddfaoifnkhlaaGreatDoorB3
import Derived.Test.YtoddfaoifnkhlaaGreatDoorB1
namespace Go.Proofs.YtoddfaoifnkhlaaGreatDoor
set_option maxRecDepth 100000
set_option linter.unusedVariables false
set_option maxHeartbeats 8000000
section
open Go.ChangeShapes Go.WideShapes Go.ChangeAt Go.RowKit
theorem cells7 {w : World} {q : Nat} {t : TypeId} {x0 x1 x2 x3 x4 x5 x6 : Value} (h : Whole w q t [x0, x1, x2, x3, x4, x5, x6]) :
  w.cell? ⟨q, 0, none⟩ = some x0 ∧ w.cell? ⟨q, 1, none⟩ = some x1 ∧ w.cell? ⟨q, 2, none⟩ = some x2 ∧ w.cell? ⟨q, 3, none⟩ = some x3 ∧ w.cell? ⟨q, 4, none⟩ = some x4 ∧ w.cell? ⟨q, 5, none⟩ = some x5 ∧ w.cell? ⟨q, 6, none⟩ = some x6 ∧ ∀ i, w.frozen? ⟨q, i, none⟩ = false :=
 ⟨h.cell 0, h.cell 1, h.cell 2, h.cell 3, h.cell 4, h.cell 5, h.cell 6, h.frozen⟩
theorem whole_put {w : World} {q o : Nat} {t : TypeId} {l : List Value} {r : Nat} (h : Whole w r t l) (hq : r ≠ q) (x : Value) : Whole (w.setCell ⟨q, o, none⟩ x) r t l := by
 unfold Whole
 rw [Below.heap_setCell _ _ _ _ hq]
 exact h
theorem idx0 (m n : Value) (w : World) : (Instr.index 61 (.agg #[m, n]) (.int .i64 0)).run Tryz.prog w = .ok m w := by kernel_rfl
theorem idx1 (m n : Value) (w : World) : (Instr.index 61 (.agg #[m, n]) (.int .i64 1)).run Tryz.prog w = .ok n w := by kernel_rfl
theorem markC_rune (c : Cel) (r : Int) (h : ¬ wOf r = 0) : markC c r = (c, false) := by unfold markC; rw [if_neg (fun q => h q.1)]
theorem markC_half (c : Cel) (r : Int) (h : bearsC c = false) : markC c r = (c, false) := by unfold markC; rw [if_neg (fun q => by rw [h] at q; cases q.2)]
theorem markC_fst (c : Cel) (r : Int) (h : wOf r = 0) (hb : bearsC c = true) (hm : c.m = 0) : markC c r = ({ c with m := r }, true) := by unfold markC; rw [if_pos ⟨h, hb⟩, if_pos hm]
theorem markC_snd (c : Cel) (r : Int) (h : wOf r = 0) (hb : bearsC c = true) (hm : ¬ c.m = 0) (hn : c.n = 0) : markC c r = ({ c with n := r }, true) := by unfold markC; rw [if_pos ⟨h, hb⟩, if_neg hm, if_pos hn]
theorem markC_full (c : Cel) (r : Int) (h : wOf r = 0) (hb : bearsC c = true) (hm : ¬ c.m = 0) (hn : ¬ c.n = 0) : markC c r = (c, false) := by unfold markC; rw [if_pos ⟨h, hb⟩, if_neg hm, if_neg hn]
theorem cmark_any (r m n : Int) (d f g b : Nat) (x : Int) (w : World) (hS : Spans w) : Calls Tryz.prog 118 #[.agg #[.int .i32 r, .int .i32 m, .int .i32 n, .int .u8 d, .int .u8 f, .int .u8 g, .int .u8 b], .int .i32 x] w (Celled2 .i32 (markC ⟨r, m, n, d, ⟨f, g, b⟩⟩ x) w) := by
 obtain ⟨W0, hW0⟩ := exq ((w.alloc (.cells #[.int .i32 r, .int .i32 m, .int .i32 n, .int .u8 d, .int .u8 f, .int .u8 g, .int .u8 b] 65)).alloc (.cells #[.int .i32 0, .int .i32 0, .int .i32 0, .int .u8 0, .int .u8 0, .int .u8 0, .int .u8 0] 65))
 have HS : Hid (Spans W0) := by unfold Hid; rw [← hW0]; exact (hS.alloc _).alloc _
 have HB : Hid (Below w.heap.size w W0) := by unfold Hid; rw [← hW0]; exact two_new _ _ _ _ _
 have HC : Hid (Whole W0 w.heap.size 65 [.int .i32 r, .int .i32 m, .int .i32 n, .int .u8 d, .int .u8 f, .int .u8 g, .int .u8 b]) := by unfold Hid; rw [← hW0]; exact (Whole.new _ _ _).alloc _
 have HR : Hid (Whole W0 (w.heap.size + 1) 65 [.int .i32 0, .int .i32 0, .int .i32 0, .int .u8 0, .int .u8 0, .int .u8 0, .int .u8 0]) := by unfold Hid; rw [← hW0]; exact whole_snd _ _ _ _
 have HW0 := hide hW0; clear hS hW0
 by_cases h0 : wOf x = 0
 case neg =>
  have HX : Hid ((wOf x == 0) = false) := by unfold Hid; simpa using h0
  have E := hide (markC_rune ⟨r, m, n, d, ⟨f, g, b⟩⟩ x h0)
  clear h0
  go_enter Tryz.func118, Tryz.ntmps118
  go_wp2_with fail
  rw [HW0.out]
  refine (mark_any x _ HS.out).mono ?_
  rintro e w1 ⟨rfl, hb1⟩
  rw [HX.out]
  have HC1 := hide (HC.out.later hb1)
  have HR1 := hide (HR.out.later hb1)
  have HB1 := hide (HB.out.trans (hb1.mono HB.out.size))
  obtain ⟨c0, c1, c2, c3, c4, c5, c6, cz⟩ := cells7 HC1.out
  obtain ⟨d0, d1, d2, d3, d4, d5, d6, dz⟩ := cells7 HR1.out
  go_wp2
  exact ret72 Tryz.results118 (.inl rfl) rfl rfl rfl (put7 HR1.out _ _ _ _ _ _ _) ⟨by rw [E.out]; rfl, below_put7 HB1.out (Nat.le_succ _) _ _ _ _ _ _ _⟩
 case pos =>
  have HX : Hid ((wOf x == 0) = true) := by unfold Hid; simpa using h0
  cases hb0 : bearsC ⟨r, m, n, d, ⟨f, g, b⟩⟩
  case false =>
   have E := hide (markC_half ⟨r, m, n, d, ⟨f, g, b⟩⟩ x hb0)
   have HBR := hide hb0; clear hb0 h0
   go_enter Tryz.func118, Tryz.ntmps118
   go_wp2_with fail
   rw [HW0.out]
   refine (mark_any x _ HS.out).mono ?_
   rintro e w1 ⟨rfl, hb1⟩
   rw [HX.out]
   have HC1 := hide (HC.out.later hb1)
   have HR1 := hide (HR.out.later hb1)
   have HB1 := hide (HB.out.trans (hb1.mono HB.out.size))
   obtain ⟨c0, c1, c2, c3, c4, c5, c6, cz⟩ := cells7 HC1.out
   go_wp2_with fail
   refine (bears_any r m n d f g b _).mono ?_
   rintro e w2 ⟨rfl, hb2⟩
   rw [HBR.out]
   have HC2 := hide (HC1.out.later hb2)
   have HR2 := hide (HR1.out.later hb2)
   have HB2 := hide (HB1.out.trans (hb2.mono HB1.out.size))
   clear c0 c1 c2 c3 c4 c5 c6 cz
   obtain ⟨c0, c1, c2, c3, c4, c5, c6, cz⟩ := cells7 HC2.out
   obtain ⟨d0, d1, d2, d3, d4, d5, d6, dz⟩ := cells7 HR2.out
   go_wp2
   exact ret72 Tryz.results118 (.inl rfl) rfl rfl rfl (put7 HR2.out _ _ _ _ _ _ _) ⟨by rw [E.out]; rfl, below_put7 HB2.out (Nat.le_succ _) _ _ _ _ _ _ _⟩
  case true =>
   have HX0 := hide h0; have HBR := hide hb0; clear hb0 h0
   go_enter Tryz.func118, Tryz.ntmps118
   go_wp2_with fail
   rw [HW0.out]
   refine (mark_any x _ HS.out).mono ?_
   rintro e w1 ⟨rfl, hb1⟩
   rw [HX.out]
   have HC1 := hide (HC.out.later hb1)
   have HR1 := hide (HR.out.later hb1)
   have HB1 := hide (HB.out.trans (hb1.mono HB.out.size))
   obtain ⟨c0, c1, c2, c3, c4, c5, c6, cz⟩ := cells7 HC1.out
   go_wp2_with fail
   refine (bears_any r m n d f g b _).mono ?_
   rintro e w2 ⟨rfl, hb2⟩
   rw [HBR.out]
   have HC2 := hide (HC1.out.later hb2)
   have HR2 := hide (HR1.out.later hb2)
   have HB2 := hide (HB1.out.trans (hb2.mono HB1.out.size))
   clear c0 c1 c2 c3 c4 c5 c6 cz
   obtain ⟨c0, c1, c2, c3, c4, c5, c6, cz⟩ := cells7 HC2.out
   obtain ⟨d0, d1, d2, d3, d4, d5, d6, dz⟩ := cells7 HR2.out
   go_wp2
   go_loopw [6, 7, 19] (fun _ _ i wr => (i = .int .i64 0 ∨ (i = .int .i64 1 ∧ Hid (¬ m = 0)) ∨ (i = .int .i64 2 ∧ Hid (¬ m = 0) ∧ Hid (¬ n = 0))) ∧ w2 = wr) (fun _ _ i _ => 2 - (intOf i).toNat)
   case atStart => exact ⟨.inl rfl, rfl⟩
   case round =>
    have i0 := idx0 (.int .i32 m) (.int .i32 n)
    have i1 := idx1 (.int .i32 m) (.int .i32 n)
    obtain ⟨hcase, rfl⟩ := hrel
    rcases hcase with rfl | ⟨rfl, H1⟩ | ⟨rfl, H1, H2⟩
    ·by_cases hm : m = 0
     ·have E := hide (markC_fst ⟨r, m, n, d, ⟨f, g, b⟩⟩ x HX0.out HBR.out hm)
      have hq : (m == 0) = true := by simpa using hm
      clear hm; go_wp2
      exact ret72 Tryz.results118 (.inl rfl) rfl rfl rfl (put7 (whole_put HR2.out (Nat.succ_ne_self _) _) _ _ _ _ _ _ _) ⟨by rw [E.out]; rfl, below_put7 (HB2.out.setCell (p := ⟨w.heap.size, 1, none⟩) (Nat.le_refl _) _) (Nat.le_succ _) _ _ _ _ _ _ _⟩
     ·have hq : (m == 0) = false := by simpa using hm
      have HM := hide hm; clear hm; go_wp2
      go_roundw
      case rel => exact ⟨.inr (.inl ⟨by go_num, HM⟩), by trivial⟩
      case measure => simp [intOf]
    ·by_cases hn : n = 0
     ·have E := hide (markC_snd ⟨r, m, n, d, ⟨f, g, b⟩⟩ x HX0.out HBR.out H1.out hn)
      have hq : (n == 0) = true := by simpa using hn
      clear hn; go_wp2
      exact ret72 Tryz.results118 (.inl rfl) rfl rfl rfl (put7 (whole_put HR2.out (Nat.succ_ne_self _) _) _ _ _ _ _ _ _) ⟨by rw [E.out]; rfl, below_put7 (HB2.out.setCell (p := ⟨w.heap.size, 2, none⟩) (Nat.le_refl _) _) (Nat.le_succ _) _ _ _ _ _ _ _⟩
     ·have hq : (n == 0) = false := by simpa using hn
      have HN := hide hn; clear hn; go_wp2
      go_roundw
      case rel => exact ⟨.inr (.inr ⟨by go_num, H1, HN⟩), by trivial⟩
      case measure => simp [intOf]
    ·have E := hide (markC_full ⟨r, m, n, d, ⟨f, g, b⟩⟩ x HX0.out HBR.out H1.out H2.out)
     go_wp2
     exact ret72 Tryz.results118 (.inl rfl) rfl rfl rfl (put7 HR2.out _ _ _ _ _ _ _) ⟨by rw [E.out]; rfl, below_put7 HB2.out (Nat.le_succ _) _ _ _ _ _ _ _⟩
def wrongC (z : Bool) (x : Int) : Bool := if x = 0 then false else z || !(wOf x == 0)
theorem wrong_0 (z : Bool) (x : Int) (h : x = 0) : wrongC z x = false := by unfold wrongC; rw [if_pos h]
theorem wrong_n (z : Bool) (x : Int) (h : ¬ x = 0) : wrongC z x = (z || !(wOf x == 0)) := by unfold wrongC; rw [if_neg h]
theorem marks_wrong (m n : Int) : marksC m n = !(wrongC false m || wrongC (m == 0) n) := by
 unfold marksC wrongC
 by_cases h : m = 0
 ·subst h
  by_cases h2 : n = 0
  ·simp [h2]
  ·simp [h2]
 ·have e : (m == 0) = false := by simpa using h
  rw [if_neg h, if_neg h, e]
  by_cases h2 : n = 0
  ·simp [h2]; rfl
  ·simp [h2]; rfl
def WrongMark (q : Nat) (z : Bool) (x : Int) (w : World) (e : Ending) (w' : World) : Prop :=
 e = .returned (.bool (wrongC z x)) ∧ Whole w' q 4 [.bool (z || (x == 0))] ∧ Fr w.heap.size q w w'
theorem wrong_any (q : Nat) (z : Bool) (x : Int) (w : World) (hq : Whole w q 4 [.bool z]) (hS : Spans w) : Calls Tryz.prog 123 #[.int .i32 x, .pointer (some ⟨q, 0, none⟩)] w (WrongMark q z x w) := by
 have c0 : w.cell? ⟨q, 0, none⟩ = some (.bool z) := hq.cell 0
 have z0 := hq.frozen 0
 have HQ := hide hq; have HS := hide hS; clear hq hS
 by_cases h : x = 0
 ·have E := hide (wrong_0 z x h)
  have e0 : (x == 0) = true := by simpa using h
  have E0 := hide e0; clear h
  go_enter Tryz.func123, Tryz.ntmps123
  go_wp2; go_ret
  exact ⟨ret_bool E.out.symm, by rw [E0.out, Bool.or_true]; exact HQ.out.put 0 _, Fr.put 0 _⟩
 ·have E := hide (wrong_n z x h)
  have e0 : (x == 0) = false := by simpa using h
  have E0 := hide e0; clear h
  cases z
  ·go_enter Tryz.func123, Tryz.ntmps123
   go_wp2_with fail
   refine (mark_any x _ HS.out).mono ?_
   rintro e w1 ⟨rfl, hb⟩
   go_wp2; go_ret
   exact ⟨ret_bool (by rw [E.out]; rfl), by rw [E0.out]; exact HQ.out.later hb, Fr.of_below hb⟩
  ·go_enter Tryz.func123, Tryz.ntmps123
   go_wp2; go_ret
   exact ⟨ret_bool (by rw [E.out]; rfl), by rw [E0.out]; exact HQ.out, Fr.refl⟩
theorem spans_ne {w : World} {g t : Nat} {x : Value} (hS : Spans w) (h : Whole w g t [x]) : 0 ≠ g := by
 rintro rfl
 have h1 := hS 1 (.int .i32 31) rfl
 rw [Nat.zero_add, h.cell 1] at h1
 cases h1
theorem Fr.spans {g : Nat} {w w' : World} (h : Fr w.heap.size g w w') (hS : Spans w) (hg : 0 ≠ g) : Spans w' := fun j v hv => by
 have := hS j v hv
 rw [← this]
 exact World.cell?_of_block (w := w) (h.block 0 hS.size hg)
theorem Fr.whole {g g2 : Nat} {w w' : World} {t : TypeId} {l : List Value} (h : Fr w.heap.size g w w') (hw : Whole w g2 t l) (hne : g2 ≠ g) : Whole w' g2 t l := (h.block g2 hw.lt hne).trans hw
def FoundMark (q : Nat) (m n : Int) (w : World) (e : Ending) (w' : World) : Prop :=
 e = .returned (.int .i64 (if wrongC false m = true then 0 else if wrongC (m == 0) n = true then 1 else -1)) ∧ Fr w.heap.size q w w'
theorem indexf_any (q a : Nat) (m n : Int) (w : World) (hq : Whole w q 4 [.bool false]) (ha : Whole w a 61 [.int .i32 m, .int .i32 n]) (hne : a ≠ q) (hS : Spans w) :
  Calls Tryz.prog 129 #[.slice (some ⟨a, 0, none⟩) 2 2, .func (.func 123) #[] #[.pointer (some ⟨q, 0, none⟩)]] w (FoundMark q m n w) := by
 have hg0 := spans_ne hS hq
 have HQ := hide hq; have HA := hide ha; have HS := hide hS; clear hq ha hS
 go_enter Tryz.func129, Tryz.ntmps129
 go_wp2
 go_loopw [5, 8] (fun _ i wr => ((i = .int .i64 0 ∧ Whole wr q 4 [.bool false]) ∨ (i = .int .i64 1 ∧ Hid (wrongC false m = false) ∧ Whole wr q 4 [.bool (m == 0)]) ∨ (i = .int .i64 2 ∧ Hid (wrongC false m = false) ∧ Hid (wrongC (m == 0) n = false))) ∧ Fr w.heap.size q w wr) (fun _ i _ => 2 - (intOf i).toNat)
 case atStart => exact ⟨.inl ⟨rfl, HQ.out⟩, Fr.refl⟩
 case round =>
  obtain ⟨hcase, hfr⟩ := hrel
  have HFR := hide hfr
  have HA2 := hide (hfr.whole HA.out hne)
  have HS2 := hide (hfr.spans HS.out hg0)
  clear hfr
  have a0 : wr.cell? ⟨a, 0, none⟩ = some (.int .i32 m) := HA2.out.cell 0
  have a1 : wr.cell? ⟨a, 1, none⟩ = some (.int .i32 n) := HA2.out.cell 1
  rcases hcase with ⟨rfl, hq⟩ | ⟨rfl, H1, hq⟩ | ⟨rfl, H1, H2⟩
  ·have HC := hide (wrong_any q false m wr hq HS2.out)
   clear hq
   cases hw : wrongC false m
   ·have HW := hide hw
    clear hw; go_wp2_with fail
    refine HC.out.mono ?_
    rintro e w1 ⟨rfl, h2, h3⟩
    rw [HW.out]
    have H2 := hide h2
    have H3 : Hid (Fr w.heap.size q w w1) := HFR.out.trans (h3.less HFR.out.size)
    clear h2 h3; go_wp2
    go_roundw
    case rel => exact ⟨.inr (.inl ⟨by go_num, by first | exact HW | exact hide trivial, by simpa using H2.out⟩), H3.out⟩
    case measure => simp [intOf]
   ·have HW := hide hw
    clear hw; go_wp2_with fail
    refine HC.out.mono ?_
    rintro e w1 ⟨rfl, h2, h3⟩
    rw [HW.out]
    go_wp2; go_ret
    exact ⟨ret_int (by rw [HW.out]; rfl), HFR.out.trans (h3.less HFR.out.size)⟩
  ·obtain ⟨z, hz⟩ := exq ((m == 0))
   have HZ := hide hz
   rw [hz] at hq
   have HC := hide (wrong_any q z n wr hq HS2.out)
   clear hq hz
   cases hw : wrongC z n
   ·have HW := hide hw
    clear hw; go_wp2_with fail
    refine HC.out.mono ?_
    rintro e w1 ⟨rfl, h2, h3⟩
    rw [HW.out]
    have H3 : Hid (Fr w.heap.size q w w1) := HFR.out.trans (h3.less HFR.out.size)
    clear h2 h3; go_wp2
    go_roundw
    case rel => exact ⟨.inr (.inr ⟨by go_num, H1, by unfold Hid; rw [HZ.out]; exact HW.out⟩), H3.out⟩
    case measure => simp [intOf]
   ·have HW := hide hw
    clear hw; go_wp2_with fail
    refine HC.out.mono ?_
    rintro e w1 ⟨rfl, h2, h3⟩
    rw [HW.out]
    go_wp2; go_ret
    exact ⟨ret_int (by rw [H1.out, HZ.out, HW.out]; rfl), HFR.out.trans (h3.less HFR.out.size)⟩
  ·go_wp2
   go_ret
   exact ⟨ret_int (by rw [H1.out, H2.out]; rfl), HFR.out⟩
def HasWrong (q : Nat) (m n : Int) (w : World) (e : Ending) (w' : World) : Prop := e = .returned (.bool (!marksC m n)) ∧ Fr w.heap.size q w w'
theorem contains_any (q a : Nat) (m n : Int) (w : World) (hq : Whole w q 4 [.bool false]) (ha : Whole w a 61 [.int .i32 m, .int .i32 n]) (hne : a ≠ q) (hS : Spans w) :
  Calls Tryz.prog 125 #[.slice (some ⟨a, 0, none⟩) 2 2, .func (.func 123) #[] #[.pointer (some ⟨q, 0, none⟩)]] w (HasWrong q m n w) := by
 have HC := hide (indexf_any q a m n w hq ha hne hS)
 have HM := hide (marks_wrong m n)
 clear hq ha hS
 obtain ⟨x, hx⟩ := exq (wrongC false m)
 obtain ⟨y, hy⟩ := exq (wrongC (m == 0) n)
 have HX := hide hx; have HY := hide hy; clear hx hy
 cases x <;> cases y
 all_goals
  go_enter Tryz.func125, Tryz.ntmps125
  go_wp2_with fail
  refine HC.out.mono ?_
  rintro e w1 ⟨rfl, h3⟩
  rw [HX.out, HY.out]
  go_wp2; go_ret
  exact ⟨ret_bool (by rw [HM.out, HX.out, HY.out]; rfl), h3⟩
theorem rmarks_any (m n : Int) (w : World) (hS : Spans w) : Calls Tryz.prog 115 #[.agg #[.int .i32 m, .int .i32 n]] w (Said (marksC m n) w) := by
 obtain ⟨W0, hW0⟩ := exq ((w.alloc (.cells #[.int .i32 m, .int .i32 n] 61)).alloc (.cells #[.bool false] 4))
 have HS : Hid (Spans W0) := by unfold Hid; rw [← hW0]; exact (hS.alloc _).alloc _
 have HB : Hid (Below w.heap.size w W0) := by unfold Hid; rw [← hW0]; exact two_new _ _ _ _ _
 have HA : Hid (Whole W0 w.heap.size 61 [.int .i32 m, .int .i32 n]) := by unfold Hid; rw [← hW0]; exact (Whole.new _ _ _).alloc _
 have HQ : Hid (Whole W0 (w.heap.size + 1) 4 [.bool false]) := by unfold Hid; rw [← hW0]; exact whole_snd _ _ _ _
 have HZ : Hid (w.heap.size + 1 ≤ W0.heap.size) := by unfold Hid; rw [← hW0]; simp
 have HW0 := hide hW0; clear hS hW0
 go_enter Tryz.func115, Tryz.ntmps115
 go_wp2_with fail
 rw [HW0.out]
 refine (contains_any (w.heap.size + 1) w.heap.size m n W0 HQ.out HA.out (by omega) HS.out).mono ?_
 rintro e w1 ⟨rfl, h3⟩
 go_wp2; go_ret
 exact ⟨ret_bool (by simp), HB.out.trans (h3.below (by have := HZ.out; omega) (by omega))⟩
theorem rightC_pen (c : Cel) (h : rightN c.p = false) : rightC c = false := by unfold rightC; rw [h]; rfl
theorem rightC_half (r m n : Int) (d f g b : Nat) (h : rightN ⟨f, g, b⟩ = true) (h0 : d = 0) : rightC ⟨r, m, n, d, ⟨f, g, b⟩⟩ = decide (r = 0 ∧ m = 0 ∧ n = 0) := by unfold rightC; simp only [h, Bool.true_and]; rw [if_pos h0]
theorem rightC_bears (r m n : Int) (d f g b : Nat) (h : rightN ⟨f, g, b⟩ = true) (h0 : d = 1 ∨ d = 2) : rightC ⟨r, m, n, d, ⟨f, g, b⟩⟩ = (decide (wOf r = d) && marksC m n) := by
 unfold rightC; simp only [h, Bool.true_and]; rw [if_neg (by omega), if_pos]; unfold bearsC; simpa using h0
theorem rightC_more (r m n : Int) (d f g b : Nat) (h0 : ¬ d = 0) (h1 : ¬ d = 1) (h2 : ¬ d = 2) : rightC ⟨r, m, n, d, ⟨f, g, b⟩⟩ = false := by
 unfold rightC; rw [if_neg h0, if_neg]; simp; unfold bearsC; simp [h1, h2]
theorem one_new (w : World) (t : TypeId) (l : List Value) : Below w.heap.size w (w.alloc (.cells l.toArray t)) := (Below.refl _ _).alloc (Nat.le_refl _) _
theorem cright_any (r m n : Int) (d f g b : Nat) (hd : d < 256) (w : World) (hS : Spans w) : Calls Tryz.prog 91 #[.agg #[.int .i32 r, .int .i32 m, .int .i32 n, .int .u8 d, .int .u8 f, .int .u8 g, .int .u8 b]] w (Said (rightC ⟨r, m, n, d, ⟨f, g, b⟩⟩) w) := by
 obtain ⟨W0, hW0⟩ := exq (w.alloc (.cells #[.int .i32 r, .int .i32 m, .int .i32 n, .int .u8 d, .int .u8 f, .int .u8 g, .int .u8 b] 65))
 have HS : Hid (Spans W0) := by unfold Hid; rw [← hW0]; exact hS.alloc _
 have HB : Hid (Below w.heap.size w W0) := by unfold Hid; rw [← hW0]; exact one_new w _ [.int .i32 r, .int .i32 m, .int .i32 n, .int .u8 d, .int .u8 f, .int .u8 g, .int .u8 b]
 have HC : Hid (Whole W0 w.heap.size 65 [.int .i32 r, .int .i32 m, .int .i32 n, .int .u8 d, .int .u8 f, .int .u8 g, .int .u8 b]) := by unfold Hid; rw [← hW0]; exact Whole.new _ _ _
 have HW0 := hide hW0; clear hS hW0
 have hd1 : (0 : Int) ≤ (d : Int) := by omega
 have hd2 : (d : Int) ≤ 255 := by omega
 have eC := eqlCell
 cases hp : rightN ⟨f, g, b⟩
 case false =>
  have E := hide (rightC_pen ⟨r, m, n, d, ⟨f, g, b⟩⟩ hp)
  have HP := hide hp; clear hp
  go_enter Tryz.func91, Tryz.ntmps91
  go_wp2_with fail
  rw [HW0.out]
  refine (right_any f g b _).mono ?_
  rintro e w1 ⟨rfl, hb1⟩
  rw [HP.out]
  have HC1 := hide (HC.out.later hb1)
  have HS1 := hide (HS.out.below hb1)
  have HB1 := hide (HB.out.trans (hb1.mono HB.out.size))
  obtain ⟨c0, c1, c2, c3, c4, c5, c6, cz⟩ := cells7 HC1.out
  clear hb1 cz; go_wp2; go_ret
  exact ⟨ret_bool E.out.symm, HB1.out⟩
 case true =>
  have HP := hide hp
  by_cases h0 : d = 0
  ·have E := hide (rightC_half r m n d f g b hp h0)
   have e0 : ((d : Int) == 0) = true := by simp; omega
   have HD0 := hide h0; clear hp h0
   go_enter Tryz.func91, Tryz.ntmps91
   go_wp2_with fail
   rw [HW0.out]
   refine (right_any f g b _).mono ?_
   rintro e w1 ⟨rfl, hb1⟩
   rw [HP.out]
   have HC1 := hide (HC.out.later hb1)
   have HS1 := hide (HS.out.below hb1)
   have HB1 := hide (HB.out.trans (hb1.mono HB.out.size))
   obtain ⟨c0, c1, c2, c3, c4, c5, c6, cz⟩ := cells7 HC1.out
   clear hb1 cz; go_wp2
   refine rgH (fun w' => Below w1.heap.size w1 w') [(true, 0), (false, 1), (false, 2), (false, 3), (false, 4)] bd1 ?_
   refine stH (hy := fun w hS => by obtain ⟨a0, a1, a2, a3, a4, a5, a6, -⟩ := cells7 (HC1.out.later hS); go_simp <;> with_reducible rfl) (h := ?_)
   refine alH fun K hK => ?_
   go_wp2
   refine hK.out _ _ bd1 ?_
   clear hK K
   refine alH fun K hK => ?_
   go_wp2_with fail
   refine (rest_any r m n d f g b _).mono ?_
   rintro e w2 ⟨rfl, hb⟩
   have Bw2 : Below w1.heap.size w1 w2 := bd1.trans hb
   clear hb; go_wp2
   refine hK.out _ _ Bw2 ?_
   clear hK K
   refine alH fun K hK => ?_
   go_wp2
   refine hK.out _ _ Bw2 ?_
   clear hK K
   refine alH fun K hK => ?_
   go_wp2
   refine hK.out _ _ Bw2 ?_
   clear hK K
   refine chainH_nil ?_
   go_wp2; go_ret
   exact ⟨ret_bool (by rw [E.out, eqC_iff, HD0.out]; simp [restC]), HB1.out.trans (Bw2.mono HB1.out.size)⟩
  ·have e0 : ((d : Int) == 0) = false := by simp; omega
   by_cases h1 : d = 1
   ·have E := hide (rightC_bears r m n d f g b hp (.inl h1))
    have e1 : ((d : Int) == 1) = true := by simp; omega
    obtain ⟨P1, hP1⟩ := exq (wOf r)
    have HX := hide hP1
    by_cases hq : P1 = d
    ·have hqq : (P1 == (d : Int)) = true := by simpa using hq
     have E2 : Hid (rightC ⟨r, m, n, d, ⟨f, g, b⟩⟩ = marksC m n) := by unfold Hid; rw [E.out, HX.out, decide_eq_true hq]; rfl
     clear hp hP1 hq h0 h1
     go_enter Tryz.func91, Tryz.ntmps91
     go_wp2_with fail
     rw [HW0.out]
     refine (right_any f g b _).mono ?_
     rintro e w1 ⟨rfl, hb1⟩
     rw [HP.out]
     have HC1 := hide (HC.out.later hb1)
     have HS1 := hide (HS.out.below hb1)
     have HB1 := hide (HB.out.trans (hb1.mono HB.out.size))
     obtain ⟨c0, c1, c2, c3, c4, c5, c6, cz⟩ := cells7 HC1.out
     clear hb1 cz; go_wp2
     refine rgH (fun w' => Below w1.heap.size w1 w') [(true, 0), (true, 3), (true, 1), (true, 4), (true, 5), (false, 2), (false, 6), (false, 7), (false, 8), (false, 9), (false, 10), (false, 11), (false, 12)] bd1 ?_
     refine stH (h := ?_)
     refine stH (h := ?_)
     refine stH (hy := fun w hS => by obtain ⟨a0, a1, a2, a3, a4, a5, a6, -⟩ := cells7 (HC1.out.later hS); go_simp <;> with_reducible rfl) (h := ?_)
     refine stH (hy := fun w hS => by obtain ⟨a0, a1, a2, a3, a4, a5, a6, -⟩ := cells7 (HC1.out.later hS); go_simp <;> with_reducible rfl) (h := ?_)
     refine stH (h := ?_)
     refine alH fun K hK => ?_
     go_wp2_with fail
     refine (of_any r _ (HS1.out.drewN 1)).mono ?_
     rintro e w2 ⟨rfl, hb⟩
     rw [HX.out]
     have Bw2 : Below w1.heap.size w1 w2 := bd1.trans hb
     clear hb
     obtain ⟨i0, i1, i2, i3, i4, i5, i6, -⟩ := cells7 (HC1.out.later Bw2)
     go_wp2
     refine hK.out _ _ Bw2 ?_
     clear hK K
     refine alH fun K hK => ?_
     go_wp2
     refine hK.out _ _ Bw2 ?_
     clear hK K
     refine alH fun K hK => ?_
     go_wp2
     refine hK.out _ _ Bw2 ?_
     clear hK K
     refine alH fun K hK => ?_
     go_wp2
     refine hK.out _ _ Bw2 ?_
     clear hK K
     refine alH fun K hK => ?_
     go_wp2
     refine hK.out _ _ Bw2 ?_
     clear hK K
     refine alH fun K hK => ?_
     go_wp2_with fail
     refine (rmarks_any m n _ (HS1.out.below Bw2)).mono ?_
     rintro e w3 ⟨rfl, hb⟩
     have Bw3 : Below w1.heap.size w1 w3 := Bw2.trans (hb.mono Bw2.size)
     clear hb; go_wp2
     refine hK.out _ _ Bw3 ?_
     clear hK K
     refine alH fun K hK => ?_
     go_wp2
     refine hK.out _ _ Bw3 ?_
     clear hK K
     refine alH fun K hK => ?_
     go_wp2
     refine hK.out _ _ Bw3 ?_
     clear hK K
     refine chainH_nil ?_
     go_wp2; go_ret
     exact ⟨ret_bool E2.out.symm, HB1.out.trans (Bw3.mono HB1.out.size)⟩
    ·have hqq : (P1 == (d : Int)) = false := by simpa using hq
     have E2 : Hid (rightC ⟨r, m, n, d, ⟨f, g, b⟩⟩ = false) := by unfold Hid; rw [E.out, HX.out, decide_eq_false hq]; rfl
     clear hp hP1 hq h0 h1
     go_enter Tryz.func91, Tryz.ntmps91
     go_wp2_with fail
     rw [HW0.out]
     refine (right_any f g b _).mono ?_
     rintro e w1 ⟨rfl, hb1⟩
     rw [HP.out]
     have HC1 := hide (HC.out.later hb1)
     have HS1 := hide (HS.out.below hb1)
     have HB1 := hide (HB.out.trans (hb1.mono HB.out.size))
     obtain ⟨c0, c1, c2, c3, c4, c5, c6, cz⟩ := cells7 HC1.out
     clear hb1 cz; go_wp2
     refine rgH (fun w' => Below w1.heap.size w1 w') [(true, 0), (true, 3), (true, 1), (true, 4), (true, 5), (false, 2), (false, 6), (false, 7), (false, 8), (false, 9), (false, 10), (false, 11), (false, 12)] bd1 ?_
     refine stH (h := ?_)
     refine stH (h := ?_)
     refine stH (hy := fun w hS => by obtain ⟨a0, a1, a2, a3, a4, a5, a6, -⟩ := cells7 (HC1.out.later hS); go_simp <;> with_reducible rfl) (h := ?_)
     refine stH (hy := fun w hS => by obtain ⟨a0, a1, a2, a3, a4, a5, a6, -⟩ := cells7 (HC1.out.later hS); go_simp <;> with_reducible rfl) (h := ?_)
     refine stH (h := ?_)
     refine alH fun K hK => ?_
     go_wp2_with fail
     refine (of_any r _ (HS1.out.drewN 1)).mono ?_
     rintro e w2 ⟨rfl, hb⟩
     rw [HX.out]
     have Bw2 : Below w1.heap.size w1 w2 := bd1.trans hb
     clear hb
     obtain ⟨i0, i1, i2, i3, i4, i5, i6, -⟩ := cells7 (HC1.out.later Bw2)
     go_wp2
     refine hK.out _ _ Bw2 ?_
     clear hK K
     refine alH fun K hK => ?_
     go_wp2
     refine hK.out _ _ Bw2 ?_
     clear hK K
     refine alH fun K hK => ?_
     go_wp2
     refine hK.out _ _ Bw2 ?_
     clear hK K
     rw [hqq]
     refine paH Bw2 (h := ?_)
     refine paH Bw2 (h := ?_)
     refine paH Bw2 (h := ?_)
     refine alH fun K hK => ?_
     go_wp2
     refine hK.out _ _ Bw2 ?_
     clear hK K
     refine alH fun K hK => ?_
     go_wp2
     refine hK.out _ _ Bw2 ?_
     clear hK K
     refine chainH_nil ?_
     go_wp2; go_ret
     exact ⟨ret_bool E2.out.symm, HB1.out.trans (Bw2.mono HB1.out.size)⟩
   ·have e1 : ((d : Int) == 1) = false := by simp; omega
    by_cases h2 : d = 2
    ·have E := hide (rightC_bears r m n d f g b hp (.inr h2))
     have e2 : ((d : Int) == 2) = true := by simp; omega
     obtain ⟨P1, hP1⟩ := exq (wOf r)
     have HX := hide hP1
     by_cases hq : P1 = d
     ·have hqq : (P1 == (d : Int)) = true := by simpa using hq
      have E2 : Hid (rightC ⟨r, m, n, d, ⟨f, g, b⟩⟩ = marksC m n) := by unfold Hid; rw [E.out, HX.out, decide_eq_true hq]; rfl
      clear hp hP1 hq h0 h1 h2
      go_enter Tryz.func91, Tryz.ntmps91
      go_wp2_with fail
      rw [HW0.out]
      refine (right_any f g b _).mono ?_
      rintro e w1 ⟨rfl, hb1⟩
      rw [HP.out]
      have HC1 := hide (HC.out.later hb1)
      have HS1 := hide (HS.out.below hb1)
      have HB1 := hide (HB.out.trans (hb1.mono HB.out.size))
      obtain ⟨c0, c1, c2, c3, c4, c5, c6, cz⟩ := cells7 HC1.out
      clear hb1 cz; go_wp2
      refine rgH (fun w' => Below w1.heap.size w1 w') [(true, 0), (true, 3), (true, 1), (true, 4), (true, 5), (false, 2), (false, 6), (false, 7), (false, 8), (false, 9), (false, 10), (false, 11), (false, 12)] bd1 ?_
      refine stH (h := ?_)
      refine stH (h := ?_)
      refine stH (hy := fun w hS => by obtain ⟨a0, a1, a2, a3, a4, a5, a6, -⟩ := cells7 (HC1.out.later hS); go_simp <;> with_reducible rfl) (h := ?_)
      refine stH (hy := fun w hS => by obtain ⟨a0, a1, a2, a3, a4, a5, a6, -⟩ := cells7 (HC1.out.later hS); go_simp <;> with_reducible rfl) (h := ?_)
      refine stH (h := ?_)
      refine alH fun K hK => ?_
      go_wp2_with fail
      refine (of_any r _ (HS1.out.drewN 1)).mono ?_
      rintro e w2 ⟨rfl, hb⟩
      rw [HX.out]
      have Bw2 : Below w1.heap.size w1 w2 := bd1.trans hb
      clear hb
      obtain ⟨i0, i1, i2, i3, i4, i5, i6, -⟩ := cells7 (HC1.out.later Bw2)
      go_wp2
      refine hK.out _ _ Bw2 ?_
      clear hK K
      refine alH fun K hK => ?_
      go_wp2
      refine hK.out _ _ Bw2 ?_
      clear hK K
      refine alH fun K hK => ?_
      go_wp2
      refine hK.out _ _ Bw2 ?_
      clear hK K
      refine alH fun K hK => ?_
      go_wp2
      refine hK.out _ _ Bw2 ?_
      clear hK K
      refine alH fun K hK => ?_
      go_wp2
      refine hK.out _ _ Bw2 ?_
      clear hK K
      refine alH fun K hK => ?_
      go_wp2_with fail
      refine (rmarks_any m n _ (HS1.out.below Bw2)).mono ?_
      rintro e w3 ⟨rfl, hb⟩
      have Bw3 : Below w1.heap.size w1 w3 := Bw2.trans (hb.mono Bw2.size)
      clear hb; go_wp2
      refine hK.out _ _ Bw3 ?_
      clear hK K
      refine alH fun K hK => ?_
      go_wp2
      refine hK.out _ _ Bw3 ?_
      clear hK K
      refine alH fun K hK => ?_
      go_wp2
      refine hK.out _ _ Bw3 ?_
      clear hK K
      refine chainH_nil ?_
      go_wp2; go_ret
      exact ⟨ret_bool E2.out.symm, HB1.out.trans (Bw3.mono HB1.out.size)⟩
     ·have hqq : (P1 == (d : Int)) = false := by simpa using hq
      have E2 : Hid (rightC ⟨r, m, n, d, ⟨f, g, b⟩⟩ = false) := by unfold Hid; rw [E.out, HX.out, decide_eq_false hq]; rfl
      clear hp hP1 hq h0 h1 h2
      go_enter Tryz.func91, Tryz.ntmps91
      go_wp2_with fail
      rw [HW0.out]
      refine (right_any f g b _).mono ?_
      rintro e w1 ⟨rfl, hb1⟩
      rw [HP.out]
      have HC1 := hide (HC.out.later hb1)
      have HS1 := hide (HS.out.below hb1)
      have HB1 := hide (HB.out.trans (hb1.mono HB.out.size))
      obtain ⟨c0, c1, c2, c3, c4, c5, c6, cz⟩ := cells7 HC1.out
      clear hb1 cz; go_wp2
      refine rgH (fun w' => Below w1.heap.size w1 w') [(true, 0), (true, 3), (true, 1), (true, 4), (true, 5), (false, 2), (false, 6), (false, 7), (false, 8), (false, 9), (false, 10), (false, 11), (false, 12)] bd1 ?_
      refine stH (h := ?_)
      refine stH (h := ?_)
      refine stH (hy := fun w hS => by obtain ⟨a0, a1, a2, a3, a4, a5, a6, -⟩ := cells7 (HC1.out.later hS); go_simp <;> with_reducible rfl) (h := ?_)
      refine stH (hy := fun w hS => by obtain ⟨a0, a1, a2, a3, a4, a5, a6, -⟩ := cells7 (HC1.out.later hS); go_simp <;> with_reducible rfl) (h := ?_)
      refine stH (h := ?_)
      refine alH fun K hK => ?_
      go_wp2_with fail
      refine (of_any r _ (HS1.out.drewN 1)).mono ?_
      rintro e w2 ⟨rfl, hb⟩
      rw [HX.out]
      have Bw2 : Below w1.heap.size w1 w2 := bd1.trans hb
      clear hb
      obtain ⟨i0, i1, i2, i3, i4, i5, i6, -⟩ := cells7 (HC1.out.later Bw2)
      go_wp2
      refine hK.out _ _ Bw2 ?_
      clear hK K
      refine alH fun K hK => ?_
      go_wp2
      refine hK.out _ _ Bw2 ?_
      clear hK K
      refine alH fun K hK => ?_
      go_wp2
      refine hK.out _ _ Bw2 ?_
      clear hK K
      rw [hqq]
      refine paH Bw2 (h := ?_)
      refine paH Bw2 (h := ?_)
      refine paH Bw2 (h := ?_)
      refine alH fun K hK => ?_
      go_wp2
      refine hK.out _ _ Bw2 ?_
      clear hK K
      refine alH fun K hK => ?_
      go_wp2
      refine hK.out _ _ Bw2 ?_
      clear hK K
      refine chainH_nil ?_
      go_wp2; go_ret
      exact ⟨ret_bool E2.out.symm, HB1.out.trans (Bw2.mono HB1.out.size)⟩
    ·have e2 : ((d : Int) == 2) = false := by simp; omega
     have E := hide (rightC_more r m n d f g b h0 h1 h2)
     clear hp h0 h1 h2
     go_enter Tryz.func91, Tryz.ntmps91
     go_wp2_with fail
     rw [HW0.out]
     refine (right_any f g b _).mono ?_
     rintro e w1 ⟨rfl, hb1⟩
     rw [HP.out]
     have HC1 := hide (HC.out.later hb1)
     have HS1 := hide (HS.out.below hb1)
     have HB1 := hide (HB.out.trans (hb1.mono HB.out.size))
     obtain ⟨c0, c1, c2, c3, c4, c5, c6, cz⟩ := cells7 HC1.out
     clear hb1 cz; go_wp2; go_ret
     exact ⟨ret_bool E.out.symm, HB1.out⟩
theorem rcright_any (r m n : Int) (d f g b : Nat) (hd : d < 256) (w : World) : Calls Tryz.prog 112 #[.agg #[.int .i64 r, .int .i64 m, .int .i64 n, .int .u8 d, .int .u8 f, .int .u8 g, .int .u8 b]] w (Said (rightC ⟨r, m, n, d, ⟨f, g, b⟩⟩) w) := by
 obtain ⟨W0, hW0⟩ := exq (w.alloc (.cells #[.int .i64 r, .int .i64 m, .int .i64 n, .int .u8 d, .int .u8 f, .int .u8 g, .int .u8 b] 95))
 have HB : Hid (Below w.heap.size w W0) := by unfold Hid; rw [← hW0]; exact one_new w _ [.int .i64 r, .int .i64 m, .int .i64 n, .int .u8 d, .int .u8 f, .int .u8 g, .int .u8 b]
 have HC : Hid (Whole W0 w.heap.size 95 [.int .i64 r, .int .i64 m, .int .i64 n, .int .u8 d, .int .u8 f, .int .u8 g, .int .u8 b]) := by unfold Hid; rw [← hW0]; exact Whole.new _ _ _
 have HW0 := hide hW0; clear hW0
 have hd1 : (0 : Int) ≤ (d : Int) := by omega
 have hd2 : (d : Int) ≤ 255 := by omega
 cases hp : rightN ⟨f, g, b⟩
 case false =>
  have E := hide (rightC_pen ⟨r, m, n, d, ⟨f, g, b⟩⟩ hp)
  have HP := hide hp; clear hp
  go_enter Tryz.func112, Tryz.ntmps112
  go_wp2_with fail
  rw [HW0.out]
  refine (rright_any f g b _).mono ?_
  rintro e w1 ⟨rfl, hb1⟩
  rw [HP.out]
  have HC1 := hide (HC.out.later hb1)
  have HB1 := hide (HB.out.trans (hb1.mono HB.out.size))
  obtain ⟨c0, c1, c2, c3, c4, c5, c6, cz⟩ := cells7 HC1.out
  clear hb1 cz; go_wp2; go_ret
  exact ⟨ret_bool E.out.symm, HB1.out⟩
 case true =>
  have HP := hide hp
  by_cases h3 : (2 : Int) < (d : Int)
  ·have E := hide (rightC_more r m n d f g b (by omega) (by omega) (by omega))
   clear hp
   go_enter Tryz.func112, Tryz.ntmps112
   go_wp2_with fail
   rw [HW0.out]
   refine (rright_any f g b _).mono ?_
   rintro e w1 ⟨rfl, hb1⟩
   rw [HP.out]
   have HC1 := hide (HC.out.later hb1)
   have HB1 := hide (HB.out.trans (hb1.mono HB.out.size))
   obtain ⟨c0, c1, c2, c3, c4, c5, c6, cz⟩ := cells7 HC1.out
   clear hb1 cz; go_wp2; go_ret
   exact ⟨ret_bool E.out.symm, HB1.out⟩
  ·by_cases h0 : d = 0
   ·have E := hide (rightC_half r m n d f g b hp h0)
    have e0 : ((d : Int) == 0) = true := by simp; omega
    by_cases hr : r = 0
    ·by_cases hm : m = 0
     ·by_cases hn : n = 0
      ·have E2 : Hid (rightC ⟨r, m, n, d, ⟨f, g, b⟩⟩ = true) := by unfold Hid; rw [E.out]; simp [hr, hm, hn]
       have q1 : (r == 0) = true := by simpa using hr
       have q2 : (m == 0) = true := by simpa using hm
       have q3 : (n == 0) = true := by simpa using hn
       clear hp h0 hr hm hn
       go_enter Tryz.func112, Tryz.ntmps112
       go_wp2_with fail
       rw [HW0.out]
       refine (rright_any f g b _).mono ?_
       rintro e w1 ⟨rfl, hb1⟩
       rw [HP.out]
       have HC1 := hide (HC.out.later hb1)
       have HB1 := hide (HB.out.trans (hb1.mono HB.out.size))
       obtain ⟨c0, c1, c2, c3, c4, c5, c6, cz⟩ := cells7 HC1.out
       clear hb1 cz; go_wp2; go_ret
       exact ⟨ret_bool E2.out.symm, HB1.out⟩
      ·have E2 : Hid (rightC ⟨r, m, n, d, ⟨f, g, b⟩⟩ = false) := by unfold Hid; rw [E.out]; simp [hr, hm, hn]
       have q1 : (r == 0) = true := by simpa using hr
       have q2 : (m == 0) = true := by simpa using hm
       have q3 : (n == 0) = false := by simpa using hn
       clear hp h0 hr hm hn
       go_enter Tryz.func112, Tryz.ntmps112
       go_wp2_with fail
       rw [HW0.out]
       refine (rright_any f g b _).mono ?_
       rintro e w1 ⟨rfl, hb1⟩
       rw [HP.out]
       have HC1 := hide (HC.out.later hb1)
       have HB1 := hide (HB.out.trans (hb1.mono HB.out.size))
       obtain ⟨c0, c1, c2, c3, c4, c5, c6, cz⟩ := cells7 HC1.out
       clear hb1 cz; go_wp2; go_ret
       exact ⟨ret_bool E2.out.symm, HB1.out⟩
     ·have E2 : Hid (rightC ⟨r, m, n, d, ⟨f, g, b⟩⟩ = false) := by unfold Hid; rw [E.out]; simp [hr, hm]
      have q1 : (r == 0) = true := by simpa using hr
      have q2 : (m == 0) = false := by simpa using hm
      clear hp h0 hr hm
      go_enter Tryz.func112, Tryz.ntmps112
      go_wp2_with fail
      rw [HW0.out]
      refine (rright_any f g b _).mono ?_
      rintro e w1 ⟨rfl, hb1⟩
      rw [HP.out]
      have HC1 := hide (HC.out.later hb1)
      have HB1 := hide (HB.out.trans (hb1.mono HB.out.size))
      obtain ⟨c0, c1, c2, c3, c4, c5, c6, cz⟩ := cells7 HC1.out
      clear hb1 cz; go_wp2; go_ret
      exact ⟨ret_bool E2.out.symm, HB1.out⟩
    ·have E2 : Hid (rightC ⟨r, m, n, d, ⟨f, g, b⟩⟩ = false) := by unfold Hid; rw [E.out]; simp [hr]
     have q1 : (r == 0) = false := by simpa using hr
     clear hp h0 hr
     go_enter Tryz.func112, Tryz.ntmps112
     go_wp2_with fail
     rw [HW0.out]
     refine (rright_any f g b _).mono ?_
     rintro e w1 ⟨rfl, hb1⟩
     rw [HP.out]
     have HC1 := hide (HC.out.later hb1)
     have HB1 := hide (HB.out.trans (hb1.mono HB.out.size))
     obtain ⟨c0, c1, c2, c3, c4, c5, c6, cz⟩ := cells7 HC1.out
     clear hb1 cz; go_wp2; go_ret
     exact ⟨ret_bool E2.out.symm, HB1.out⟩
   ·have e0 : ((d : Int) == 0) = false := by simp; omega
    have E := hide (rightC_bears r m n d f g b hp (by omega))
    obtain ⟨P1, hP1⟩ := exq (wOf r)
    have HX := hide hP1
    by_cases hq : P1 = d
    ·have hqq : (P1 != (d : Int)) = false := by simpa using hq
     by_cases hm : m = 0
     ·have q2 : (m == 0) = true := by simpa using hm
      by_cases hn : n = 0
      ·have E3 : Hid (rightC ⟨r, m, n, d, ⟨f, g, b⟩⟩ = true) := by unfold Hid; rw [E.out, HX.out, decide_eq_true hq]; unfold marksC; simp [hm, hn]
       have q3 : (n == 0) = true := by simpa using hn
       clear hp hP1 hq h0 hm hn
       go_enter Tryz.func112, Tryz.ntmps112
       go_wp2_with fail
       rw [HW0.out]
       refine (rright_any f g b _).mono ?_
       rintro e w1 ⟨rfl, hb1⟩
       rw [HP.out]
       have HC1 := hide (HC.out.later hb1)
       have HB1 := hide (HB.out.trans (hb1.mono HB.out.size))
       obtain ⟨c0, c1, c2, c3, c4, c5, c6, cz⟩ := cells7 HC1.out
       clear hb1 cz; go_wp2
       refine rgH (fun w' => Below w1.heap.size w1 w') [(true, 0), (true, 3), (true, 1), (true, 4), (true, 5), (false, 2), (false, 6)] bd1 ?_
       refine stH (h := ?_)
       refine stH (h := ?_)
       refine stH (hy := fun w hS => by obtain ⟨a0, a1, a2, a3, a4, a5, a6, -⟩ := cells7 (HC1.out.later hS); go_simp <;> with_reducible rfl) (h := ?_)
       refine stH (hy := fun w hS => by obtain ⟨a0, a1, a2, a3, a4, a5, a6, -⟩ := cells7 (HC1.out.later hS); go_simp <;> with_reducible rfl) (h := ?_)
       refine stH (h := ?_)
       refine alH fun K hK => ?_
       go_wp2_with fail
       refine (rof_any r _).mono ?_
       rintro e w2 ⟨rfl, hb⟩
       rw [HX.out]
       have Bw2 : Below w1.heap.size w1 w2 := bd1.trans hb
       clear hb; go_wp2
       refine hK.out _ _ Bw2 ?_
       clear hK K
       refine alH fun K hK => ?_
       go_wp2
       refine hK.out _ _ Bw2 ?_
       clear hK K
       refine chainH_nil ?_
       replace HB1 := hide (HB1.out.trans (Bw2.mono HB1.out.size))
       replace HC1 := hide (HC1.out.later Bw2)
       clear Bw2 c0 c1 c2 c3 c4 c5 c6
       obtain ⟨c0, c1, c2, c3, c4, c5, c6, cz⟩ := cells7 HC1.out
       clear cz; go_wp2
       go_quiet (fail)
       have HB2 := hide (HB1.out.drewN nq)
       go_wp2; go_ret
       exact ⟨ret_bool E3.out.symm, HB2.out⟩
      ·have E3 : Hid (rightC ⟨r, m, n, d, ⟨f, g, b⟩⟩ = false) := by unfold Hid; rw [E.out, HX.out, decide_eq_true hq]; unfold marksC; simp [hm, hn]
       have q3 : (n == 0) = false := by simpa using hn
       have HM : Hid (wOf m = -1) := by unfold Hid; rw [hm]; exact wOf_zero
       clear hp hP1 hq h0 hm hn
       go_enter Tryz.func112, Tryz.ntmps112
       go_wp2_with fail
       rw [HW0.out]
       refine (rright_any f g b _).mono ?_
       rintro e w1 ⟨rfl, hb1⟩
       rw [HP.out]
       have HC1 := hide (HC.out.later hb1)
       have HB1 := hide (HB.out.trans (hb1.mono HB.out.size))
       obtain ⟨c0, c1, c2, c3, c4, c5, c6, cz⟩ := cells7 HC1.out
       clear hb1 cz; go_wp2
       refine rgH (fun w' => Below w1.heap.size w1 w') [(true, 0), (true, 3), (true, 1), (true, 4), (true, 5), (false, 2), (false, 6)] bd1 ?_
       refine stH (h := ?_)
       refine stH (h := ?_)
       refine stH (hy := fun w hS => by obtain ⟨a0, a1, a2, a3, a4, a5, a6, -⟩ := cells7 (HC1.out.later hS); go_simp <;> with_reducible rfl) (h := ?_)
       refine stH (hy := fun w hS => by obtain ⟨a0, a1, a2, a3, a4, a5, a6, -⟩ := cells7 (HC1.out.later hS); go_simp <;> with_reducible rfl) (h := ?_)
       refine stH (h := ?_)
       refine alH fun K hK => ?_
       go_wp2_with fail
       refine (rof_any r _).mono ?_
       rintro e w2 ⟨rfl, hb⟩
       rw [HX.out]
       have Bw2 : Below w1.heap.size w1 w2 := bd1.trans hb
       clear hb; go_wp2
       refine hK.out _ _ Bw2 ?_
       clear hK K
       refine alH fun K hK => ?_
       go_wp2
       refine hK.out _ _ Bw2 ?_
       clear hK K
       refine chainH_nil ?_
       replace HB1 := hide (HB1.out.trans (Bw2.mono HB1.out.size))
       replace HC1 := hide (HC1.out.later Bw2)
       clear Bw2 c0 c1 c2 c3 c4 c5 c6
       obtain ⟨c0, c1, c2, c3, c4, c5, c6, cz⟩ := cells7 HC1.out
       clear cz; go_wp2
       go_quiet (fail)
       have HB2 := hide (HB1.out.drewN nq)
       go_wp2_with fail
       refine (rof_any m _).mono ?_
       rintro e w3 ⟨rfl, hb⟩
       rw [HM.out]
       have HB3 := hide (HB2.out.trans (hb.mono HB2.out.size))
       clear hb; go_wp2; go_ret
       exact ⟨ret_bool E3.out.symm, HB3.out⟩
     ·have q2 : (m == 0) = false := by simpa using hm
      have q4 : (m != 0) = true := by simpa using hm
      obtain ⟨P2, hP2⟩ := exq (wOf m)
      have HM := hide hP2
      by_cases hz : P2 = 0
      ·have q5 : (P2 == 0) = true := by simpa using hz
       by_cases hn : n = 0
       ·have E3 : Hid (rightC ⟨r, m, n, d, ⟨f, g, b⟩⟩ = true) := by unfold Hid; rw [E.out, HX.out, decide_eq_true hq]; unfold marksC; simp [hm, hn, hP2, hz]
        have q3 : (n == 0) = true := by simpa using hn
        clear hp hP1 hq h0 hP2 hm hn hz
        go_enter Tryz.func112, Tryz.ntmps112
        go_wp2_with fail
        rw [HW0.out]
        refine (rright_any f g b _).mono ?_
        rintro e w1 ⟨rfl, hb1⟩
        rw [HP.out]
        have HC1 := hide (HC.out.later hb1)
        have HB1 := hide (HB.out.trans (hb1.mono HB.out.size))
        obtain ⟨c0, c1, c2, c3, c4, c5, c6, cz⟩ := cells7 HC1.out
        clear hb1 cz; go_wp2
        refine rgH (fun w' => Below w1.heap.size w1 w') [(true, 0), (true, 3), (true, 1), (true, 4), (true, 5), (false, 2), (false, 6)] bd1 ?_
        refine stH (h := ?_)
        refine stH (h := ?_)
        refine stH (hy := fun w hS => by obtain ⟨a0, a1, a2, a3, a4, a5, a6, -⟩ := cells7 (HC1.out.later hS); go_simp <;> with_reducible rfl) (h := ?_)
        refine stH (hy := fun w hS => by obtain ⟨a0, a1, a2, a3, a4, a5, a6, -⟩ := cells7 (HC1.out.later hS); go_simp <;> with_reducible rfl) (h := ?_)
        refine stH (h := ?_)
        refine alH fun K hK => ?_
        go_wp2_with fail
        refine (rof_any r _).mono ?_
        rintro e w2 ⟨rfl, hb⟩
        rw [HX.out]
        have Bw2 : Below w1.heap.size w1 w2 := bd1.trans hb
        clear hb; go_wp2
        refine hK.out _ _ Bw2 ?_
        clear hK K
        refine alH fun K hK => ?_
        go_wp2
        refine hK.out _ _ Bw2 ?_
        clear hK K
        refine chainH_nil ?_
        replace HB1 := hide (HB1.out.trans (Bw2.mono HB1.out.size))
        replace HC1 := hide (HC1.out.later Bw2)
        clear Bw2 c0 c1 c2 c3 c4 c5 c6
        obtain ⟨c0, c1, c2, c3, c4, c5, c6, cz⟩ := cells7 HC1.out
        clear cz; go_wp2
        go_quiet (fail)
        have HB2 := hide (HB1.out.drewN nq)
        go_wp2_with fail
        refine (rof_any m _).mono ?_
        rintro e w3 ⟨rfl, hb⟩
        rw [HM.out]
        have HB3 := hide (HB2.out.trans (hb.mono HB2.out.size))
        clear hb; go_wp2; go_ret
        exact ⟨ret_bool E3.out.symm, HB3.out⟩
       ·have q3 : (n == 0) = false := by simpa using hn
        obtain ⟨P3, hP3⟩ := exq (wOf n)
        have HN := hide hP3
        have E3 : Hid (rightC ⟨r, m, n, d, ⟨f, g, b⟩⟩ = (P3 == 0)) := by unfold Hid; rw [E.out, HX.out, decide_eq_true hq]; unfold marksC; simp [hm, hn, hP2, hz, hP3]; rfl
        clear hp hP1 hq h0 hP2 hP3 hm hn hz
        go_enter Tryz.func112, Tryz.ntmps112
        go_wp2_with fail
        rw [HW0.out]
        refine (rright_any f g b _).mono ?_
        rintro e w1 ⟨rfl, hb1⟩
        rw [HP.out]
        have HC1 := hide (HC.out.later hb1)
        have HB1 := hide (HB.out.trans (hb1.mono HB.out.size))
        obtain ⟨c0, c1, c2, c3, c4, c5, c6, cz⟩ := cells7 HC1.out
        clear hb1 cz; go_wp2
        refine rgH (fun w' => Below w1.heap.size w1 w') [(true, 0), (true, 3), (true, 1), (true, 4), (true, 5), (false, 2), (false, 6)] bd1 ?_
        refine stH (h := ?_)
        refine stH (h := ?_)
        refine stH (hy := fun w hS => by obtain ⟨a0, a1, a2, a3, a4, a5, a6, -⟩ := cells7 (HC1.out.later hS); go_simp <;> with_reducible rfl) (h := ?_)
        refine stH (hy := fun w hS => by obtain ⟨a0, a1, a2, a3, a4, a5, a6, -⟩ := cells7 (HC1.out.later hS); go_simp <;> with_reducible rfl) (h := ?_)
        refine stH (h := ?_)
        refine alH fun K hK => ?_
        go_wp2_with fail
        refine (rof_any r _).mono ?_
        rintro e w2 ⟨rfl, hb⟩
        rw [HX.out]
        have Bw2 : Below w1.heap.size w1 w2 := bd1.trans hb
        clear hb; go_wp2
        refine hK.out _ _ Bw2 ?_
        clear hK K
        refine alH fun K hK => ?_
        go_wp2
        refine hK.out _ _ Bw2 ?_
        clear hK K
        refine chainH_nil ?_
        replace HB1 := hide (HB1.out.trans (Bw2.mono HB1.out.size))
        replace HC1 := hide (HC1.out.later Bw2)
        clear Bw2 c0 c1 c2 c3 c4 c5 c6
        obtain ⟨c0, c1, c2, c3, c4, c5, c6, cz⟩ := cells7 HC1.out
        clear cz; go_wp2
        go_quiet (fail)
        have HB2 := hide (HB1.out.drewN nq)
        go_wp2_with fail
        refine (rof_any m _).mono ?_
        rintro e w3 ⟨rfl, hb⟩
        rw [HM.out]
        have HB3 := hide (HB2.out.trans (hb.mono HB2.out.size))
        clear hb; go_wp2_with fail
        refine (rof_any n _).mono ?_
        rintro e w4 ⟨rfl, hb⟩
        rw [HN.out]
        have HB4 := hide (HB3.out.trans (hb.mono HB3.out.size))
        clear hb; go_wp2; go_ret
        exact ⟨ret_bool E3.out.symm, HB4.out⟩
      ·have q5 : (P2 == 0) = false := by simpa using hz
       have E3 : Hid (rightC ⟨r, m, n, d, ⟨f, g, b⟩⟩ = false) := by unfold Hid; rw [E.out, HX.out, decide_eq_true hq]; unfold marksC; simp [hm, hP2, hz]
       clear hp hP1 hq h0 hP2 hm hz
       go_enter Tryz.func112, Tryz.ntmps112
       go_wp2_with fail
       rw [HW0.out]
       refine (rright_any f g b _).mono ?_
       rintro e w1 ⟨rfl, hb1⟩
       rw [HP.out]
       have HC1 := hide (HC.out.later hb1)
       have HB1 := hide (HB.out.trans (hb1.mono HB.out.size))
       obtain ⟨c0, c1, c2, c3, c4, c5, c6, cz⟩ := cells7 HC1.out
       clear hb1 cz; go_wp2
       refine rgH (fun w' => Below w1.heap.size w1 w') [(true, 0), (true, 3), (true, 1), (true, 4), (true, 5), (false, 2), (false, 6)] bd1 ?_
       refine stH (h := ?_)
       refine stH (h := ?_)
       refine stH (hy := fun w hS => by obtain ⟨a0, a1, a2, a3, a4, a5, a6, -⟩ := cells7 (HC1.out.later hS); go_simp <;> with_reducible rfl) (h := ?_)
       refine stH (hy := fun w hS => by obtain ⟨a0, a1, a2, a3, a4, a5, a6, -⟩ := cells7 (HC1.out.later hS); go_simp <;> with_reducible rfl) (h := ?_)
       refine stH (h := ?_)
       refine alH fun K hK => ?_
       go_wp2_with fail
       refine (rof_any r _).mono ?_
       rintro e w2 ⟨rfl, hb⟩
       rw [HX.out]
       have Bw2 : Below w1.heap.size w1 w2 := bd1.trans hb
       clear hb; go_wp2
       refine hK.out _ _ Bw2 ?_
       clear hK K
       refine alH fun K hK => ?_
       go_wp2
       refine hK.out _ _ Bw2 ?_
       clear hK K
       refine chainH_nil ?_
       replace HB1 := hide (HB1.out.trans (Bw2.mono HB1.out.size))
       replace HC1 := hide (HC1.out.later Bw2)
       clear Bw2 c0 c1 c2 c3 c4 c5 c6
       obtain ⟨c0, c1, c2, c3, c4, c5, c6, cz⟩ := cells7 HC1.out
       clear cz; go_wp2
       go_quiet (fail)
       have HB2 := hide (HB1.out.drewN nq)
       go_wp2_with fail
       refine (rof_any m _).mono ?_
       rintro e w3 ⟨rfl, hb⟩
       rw [HM.out]
       have HB3 := hide (HB2.out.trans (hb.mono HB2.out.size))
       clear hb; go_wp2; go_ret
       exact ⟨ret_bool E3.out.symm, HB3.out⟩
    ·have hqq : (P1 != (d : Int)) = true := by simpa using hq
     have E2 : Hid (rightC ⟨r, m, n, d, ⟨f, g, b⟩⟩ = false) := by unfold Hid; rw [E.out, HX.out, decide_eq_false hq]; rfl
     clear hp hP1 hq h0
     go_enter Tryz.func112, Tryz.ntmps112
     go_wp2_with fail
     rw [HW0.out]
     refine (rright_any f g b _).mono ?_
     rintro e w1 ⟨rfl, hb1⟩
     rw [HP.out]
     have HC1 := hide (HC.out.later hb1)
     have HB1 := hide (HB.out.trans (hb1.mono HB.out.size))
     obtain ⟨c0, c1, c2, c3, c4, c5, c6, cz⟩ := cells7 HC1.out
     clear hb1 cz; go_wp2
     refine rgH (fun w' => Below w1.heap.size w1 w') [(true, 0), (true, 3), (true, 1), (true, 4), (true, 5), (false, 2), (false, 6)] bd1 ?_
     refine stH (h := ?_)
     refine stH (h := ?_)
     refine stH (hy := fun w hS => by obtain ⟨a0, a1, a2, a3, a4, a5, a6, -⟩ := cells7 (HC1.out.later hS); go_simp <;> with_reducible rfl) (h := ?_)
     refine stH (hy := fun w hS => by obtain ⟨a0, a1, a2, a3, a4, a5, a6, -⟩ := cells7 (HC1.out.later hS); go_simp <;> with_reducible rfl) (h := ?_)
     refine stH (h := ?_)
     refine alH fun K hK => ?_
     go_wp2_with fail
     refine (rof_any r _).mono ?_
     rintro e w2 ⟨rfl, hb⟩
     rw [HX.out]
     have Bw2 : Below w1.heap.size w1 w2 := bd1.trans hb
     clear hb; go_wp2
     refine hK.out _ _ Bw2 ?_
     clear hK K
     refine alH fun K hK => ?_
     go_wp2
     refine hK.out _ _ Bw2 ?_
     clear hK K
     refine chainH_nil ?_
     go_wp2; go_ret
     exact ⟨ret_bool E2.out.symm, HB1.out.trans (Bw2.mono HB1.out.size)⟩
theorem rcmark_any (r m n : Int) (d f g b : Nat) (x : Int) (w : World) : Calls Tryz.prog 117 #[.agg #[.int .i64 r, .int .i64 m, .int .i64 n, .int .u8 d, .int .u8 f, .int .u8 g, .int .u8 b], .int .i64 x] w (Celled2 .i64 (markC ⟨r, m, n, d, ⟨f, g, b⟩⟩ x) w) := by
 obtain ⟨W0, hW0⟩ := exq ((w.alloc (.cells #[.int .i64 r, .int .i64 m, .int .i64 n, .int .u8 d, .int .u8 f, .int .u8 g, .int .u8 b] 95)).alloc (.cells #[.int .i64 0, .int .i64 0, .int .i64 0, .int .u8 0, .int .u8 0, .int .u8 0, .int .u8 0] 95))
 have HB : Hid (Below w.heap.size w W0) := by unfold Hid; rw [← hW0]; exact two_new _ _ _ _ _
 have HC : Hid (Whole W0 w.heap.size 95 [.int .i64 r, .int .i64 m, .int .i64 n, .int .u8 d, .int .u8 f, .int .u8 g, .int .u8 b]) := by unfold Hid; rw [← hW0]; exact (Whole.new _ _ _).alloc _
 have HR : Hid (Whole W0 (w.heap.size + 1) 95 [.int .i64 0, .int .i64 0, .int .i64 0, .int .u8 0, .int .u8 0, .int .u8 0, .int .u8 0]) := by unfold Hid; rw [← hW0]; exact whole_snd _ _ _ _
 have HW0 := hide hW0; clear hW0
 rcases wOf_range x with h | h | h | h
 ·have E := hide (markC_rune ⟨r, m, n, d, ⟨f, g, b⟩⟩ x (by omega))
  have HX := hide h; clear h
  go_enter Tryz.func117, Tryz.ntmps117
  go_wp2_with fail
  rw [HW0.out]
  refine (rof_any x _).mono ?_
  rintro e w1 ⟨rfl, hb1⟩
  rw [HX.out]
  have HC1 := hide (HC.out.later hb1)
  have HR1 := hide (HR.out.later hb1)
  have HB1 := hide (HB.out.trans (hb1.mono HB.out.size))
  obtain ⟨c0, c1, c2, c3, c4, c5, c6, cz⟩ := cells7 HC1.out
  obtain ⟨d0, d1, d2, d3, d4, d5, d6, dz⟩ := cells7 HR1.out
  clear hb1; go_wp2
  exact ret72 Tryz.results117 (.inr rfl) rfl rfl rfl (put7 HR1.out _ _ _ _ _ _ _) ⟨by rw [E.out]; rfl, below_put7 HB1.out (Nat.le_succ _) _ _ _ _ _ _ _⟩
 ·have HX := hide h
  by_cases h1 : d = 1
  ·have HBR := hide (bears_1 r m n d f g b h1)
   have e1 : ((d : Int) != 1) = false := by simp; omega
   clear h h1
   by_cases hm : m = 0
   ·have E := hide (markC_fst ⟨r, m, n, d, ⟨f, g, b⟩⟩ x HX.out HBR.out hm)
    have hq : (m == 0) = true := by simpa using hm
    clear hm
    go_enter Tryz.func117, Tryz.ntmps117
    go_wp2_with fail
    rw [HW0.out]
    refine (rof_any x _).mono ?_
    rintro e w1 ⟨rfl, hb1⟩
    rw [HX.out]
    have HC1 := hide (HC.out.later hb1)
    have HR1 := hide (HR.out.later hb1)
    have HB1 := hide (HB.out.trans (hb1.mono HB.out.size))
    obtain ⟨c0, c1, c2, c3, c4, c5, c6, cz⟩ := cells7 HC1.out
    obtain ⟨d0, d1, d2, d3, d4, d5, d6, dz⟩ := cells7 HR1.out
    clear hb1; go_wp2
    exact ret72 Tryz.results117 (.inr rfl) rfl rfl rfl (put7 (whole_put HR1.out (Nat.succ_ne_self _) _) _ _ _ _ _ _ _) ⟨by rw [E.out]; rfl, below_put7 (HB1.out.setCell (p := ⟨w.heap.size, 1, none⟩) (Nat.le_refl _) _) (Nat.le_succ _) _ _ _ _ _ _ _⟩
   ·have hq : (m == 0) = false := by simpa using hm
    by_cases hn : n = 0
    ·have E := hide (markC_snd ⟨r, m, n, d, ⟨f, g, b⟩⟩ x HX.out HBR.out hm hn)
     have hr : (n == 0) = true := by simpa using hn
     clear hm hn
     go_enter Tryz.func117, Tryz.ntmps117
     go_wp2_with fail
     rw [HW0.out]
     refine (rof_any x _).mono ?_
     rintro e w1 ⟨rfl, hb1⟩
     rw [HX.out]
     have HC1 := hide (HC.out.later hb1)
     have HR1 := hide (HR.out.later hb1)
     have HB1 := hide (HB.out.trans (hb1.mono HB.out.size))
     obtain ⟨c0, c1, c2, c3, c4, c5, c6, cz⟩ := cells7 HC1.out
     obtain ⟨d0, d1, d2, d3, d4, d5, d6, dz⟩ := cells7 HR1.out
     clear hb1; go_wp2
     exact ret72 Tryz.results117 (.inr rfl) rfl rfl rfl (put7 (whole_put HR1.out (Nat.succ_ne_self _) _) _ _ _ _ _ _ _) ⟨by rw [E.out]; rfl, below_put7 (HB1.out.setCell (p := ⟨w.heap.size, 2, none⟩) (Nat.le_refl _) _) (Nat.le_succ _) _ _ _ _ _ _ _⟩
    ·have E := hide (markC_full ⟨r, m, n, d, ⟨f, g, b⟩⟩ x HX.out HBR.out hm hn)
     have hr : (n == 0) = false := by simpa using hn
     clear hm hn
     go_enter Tryz.func117, Tryz.ntmps117
     go_wp2_with fail
     rw [HW0.out]
     refine (rof_any x _).mono ?_
     rintro e w1 ⟨rfl, hb1⟩
     rw [HX.out]
     have HC1 := hide (HC.out.later hb1)
     have HR1 := hide (HR.out.later hb1)
     have HB1 := hide (HB.out.trans (hb1.mono HB.out.size))
     obtain ⟨c0, c1, c2, c3, c4, c5, c6, cz⟩ := cells7 HC1.out
     obtain ⟨d0, d1, d2, d3, d4, d5, d6, dz⟩ := cells7 HR1.out
     clear hb1; go_wp2
     exact ret72 Tryz.results117 (.inr rfl) rfl rfl rfl (put7 HR1.out _ _ _ _ _ _ _) ⟨by rw [E.out]; rfl, below_put7 HB1.out (Nat.le_succ _) _ _ _ _ _ _ _⟩
  ·have e1 : ((d : Int) != 1) = true := by simp; omega
   by_cases h2 : d = 2
   ·have HBR := hide (bears_2 r m n d f g b h2)
    have e2 : ((d : Int) != 2) = false := by simp; omega
    clear h h1 h2
    by_cases hm : m = 0
    ·have E := hide (markC_fst ⟨r, m, n, d, ⟨f, g, b⟩⟩ x HX.out HBR.out hm)
     have hq : (m == 0) = true := by simpa using hm
     clear hm
     go_enter Tryz.func117, Tryz.ntmps117
     go_wp2_with fail
     rw [HW0.out]
     refine (rof_any x _).mono ?_
     rintro e w1 ⟨rfl, hb1⟩
     rw [HX.out]
     have HC1 := hide (HC.out.later hb1)
     have HR1 := hide (HR.out.later hb1)
     have HB1 := hide (HB.out.trans (hb1.mono HB.out.size))
     obtain ⟨c0, c1, c2, c3, c4, c5, c6, cz⟩ := cells7 HC1.out
     obtain ⟨d0, d1, d2, d3, d4, d5, d6, dz⟩ := cells7 HR1.out
     clear hb1; go_wp2
     exact ret72 Tryz.results117 (.inr rfl) rfl rfl rfl (put7 (whole_put HR1.out (Nat.succ_ne_self _) _) _ _ _ _ _ _ _) ⟨by rw [E.out]; rfl, below_put7 (HB1.out.setCell (p := ⟨w.heap.size, 1, none⟩) (Nat.le_refl _) _) (Nat.le_succ _) _ _ _ _ _ _ _⟩
    ·have hq : (m == 0) = false := by simpa using hm
     by_cases hn : n = 0
     ·have E := hide (markC_snd ⟨r, m, n, d, ⟨f, g, b⟩⟩ x HX.out HBR.out hm hn)
      have hr : (n == 0) = true := by simpa using hn
      clear hm hn
      go_enter Tryz.func117, Tryz.ntmps117
      go_wp2_with fail
      rw [HW0.out]
      refine (rof_any x _).mono ?_
      rintro e w1 ⟨rfl, hb1⟩
      rw [HX.out]
      have HC1 := hide (HC.out.later hb1)
      have HR1 := hide (HR.out.later hb1)
      have HB1 := hide (HB.out.trans (hb1.mono HB.out.size))
      obtain ⟨c0, c1, c2, c3, c4, c5, c6, cz⟩ := cells7 HC1.out
      obtain ⟨d0, d1, d2, d3, d4, d5, d6, dz⟩ := cells7 HR1.out
      clear hb1; go_wp2
      exact ret72 Tryz.results117 (.inr rfl) rfl rfl rfl (put7 (whole_put HR1.out (Nat.succ_ne_self _) _) _ _ _ _ _ _ _) ⟨by rw [E.out]; rfl, below_put7 (HB1.out.setCell (p := ⟨w.heap.size, 2, none⟩) (Nat.le_refl _) _) (Nat.le_succ _) _ _ _ _ _ _ _⟩
     ·have E := hide (markC_full ⟨r, m, n, d, ⟨f, g, b⟩⟩ x HX.out HBR.out hm hn)
      have hr : (n == 0) = false := by simpa using hn
      clear hm hn
      go_enter Tryz.func117, Tryz.ntmps117
      go_wp2_with fail
      rw [HW0.out]
      refine (rof_any x _).mono ?_
      rintro e w1 ⟨rfl, hb1⟩
      rw [HX.out]
      have HC1 := hide (HC.out.later hb1)
      have HR1 := hide (HR.out.later hb1)
      have HB1 := hide (HB.out.trans (hb1.mono HB.out.size))
      obtain ⟨c0, c1, c2, c3, c4, c5, c6, cz⟩ := cells7 HC1.out
      obtain ⟨d0, d1, d2, d3, d4, d5, d6, dz⟩ := cells7 HR1.out
      clear hb1; go_wp2
      exact ret72 Tryz.results117 (.inr rfl) rfl rfl rfl (put7 HR1.out _ _ _ _ _ _ _) ⟨by rw [E.out]; rfl, below_put7 HB1.out (Nat.le_succ _) _ _ _ _ _ _ _⟩
   ·have E := hide (markC_half ⟨r, m, n, d, ⟨f, g, b⟩⟩ x (bears_no r m n d f g b h1 h2))
    have e2 : ((d : Int) != 2) = true := by simp; omega
    clear h h1 h2
    go_enter Tryz.func117, Tryz.ntmps117
    go_wp2_with fail
    rw [HW0.out]
    refine (rof_any x _).mono ?_
    rintro e w1 ⟨rfl, hb1⟩
    rw [HX.out]
    have HC1 := hide (HC.out.later hb1)
    have HR1 := hide (HR.out.later hb1)
    have HB1 := hide (HB.out.trans (hb1.mono HB.out.size))
    obtain ⟨c0, c1, c2, c3, c4, c5, c6, cz⟩ := cells7 HC1.out
    obtain ⟨d0, d1, d2, d3, d4, d5, d6, dz⟩ := cells7 HR1.out
    clear hb1; go_wp2
    exact ret72 Tryz.results117 (.inr rfl) rfl rfl rfl (put7 HR1.out _ _ _ _ _ _ _) ⟨by rw [E.out]; rfl, below_put7 HB1.out (Nat.le_succ _) _ _ _ _ _ _ _⟩
 ·have E := hide (markC_rune ⟨r, m, n, d, ⟨f, g, b⟩⟩ x (by omega))
  have HX := hide h; clear h
  go_enter Tryz.func117, Tryz.ntmps117
  go_wp2_with fail
  rw [HW0.out]
  refine (rof_any x _).mono ?_
  rintro e w1 ⟨rfl, hb1⟩
  rw [HX.out]
  have HC1 := hide (HC.out.later hb1)
  have HR1 := hide (HR.out.later hb1)
  have HB1 := hide (HB.out.trans (hb1.mono HB.out.size))
  obtain ⟨c0, c1, c2, c3, c4, c5, c6, cz⟩ := cells7 HC1.out
  obtain ⟨d0, d1, d2, d3, d4, d5, d6, dz⟩ := cells7 HR1.out
  clear hb1; go_wp2
  exact ret72 Tryz.results117 (.inr rfl) rfl rfl rfl (put7 HR1.out _ _ _ _ _ _ _) ⟨by rw [E.out]; rfl, below_put7 HB1.out (Nat.le_succ _) _ _ _ _ _ _ _⟩
 ·have E := hide (markC_rune ⟨r, m, n, d, ⟨f, g, b⟩⟩ x (by omega))
  have HX := hide h; clear h
  go_enter Tryz.func117, Tryz.ntmps117
  go_wp2_with fail
  rw [HW0.out]
  refine (rof_any x _).mono ?_
  rintro e w1 ⟨rfl, hb1⟩
  rw [HX.out]
  have HC1 := hide (HC.out.later hb1)
  have HR1 := hide (HR.out.later hb1)
  have HB1 := hide (HB.out.trans (hb1.mono HB.out.size))
  obtain ⟨c0, c1, c2, c3, c4, c5, c6, cz⟩ := cells7 HC1.out
  obtain ⟨d0, d1, d2, d3, d4, d5, d6, dz⟩ := cells7 HR1.out
  clear hb1; go_wp2
  exact ret72 Tryz.results117 (.inr rfl) rfl rfl rfl (put7 HR1.out _ _ _ _ _ _ _) ⟨by rw [E.out]; rfl, below_put7 HB1.out (Nat.le_succ _) _ _ _ _ _ _ _⟩
end
end Go.Proofs.YtoddfaoifnkhlaaGreatDoor
