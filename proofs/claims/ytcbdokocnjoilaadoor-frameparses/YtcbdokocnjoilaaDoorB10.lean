/-
  Contracts and plain mathematics of RnRef3, RnRep, LRef3, LPut.
-/
import Derived.Test.YtcbdokocnjoilaaDoorB8
import Derived.Test.YtcbdokocnjoilaaDoorB9
import Derived.Test.YtcbdokocnjoilaaDoorB6
import Derived.Deep.DeepCutAuto
import Derived.Deep.CutBlock
import Derived.Test.YtcbdokocnjoilaaDoorB2
import Derived.Test.YtcbdokocnjoilaaDoorB7
import Derived.Test.YtcbdokocnjoilaaDoorB5
import Derived.Lib.MinMax
import Derived.Test.YtcbdokocnjoilaaDoorB4
namespace Go.Proofs.YtcbdokocnjoilaaDoor
set_option maxRecDepth 100000
set_option linter.unusedVariables false
set_option maxHeartbeats 8000000
section
open Go.ChangeShapes Go.WideShapes Go.ChangeAt Go.RowKit
/-- What lies in the blocks of the document's function: its reader, its answers, the cell in hand. -/
structure On (w W : World) (a : Option Addr) (n c : Nat) (T : Nat) (E : Int) (cell : List Value) : Prop where
  r1 : Whole W w.heap.size 52 [.slice a n c, .int .i64 (T : Int), .int .i64 E]
  r2 : Whole W (w.heap.size + 1) 52 [.slice none 0 0, .int .i64 0, .int .i64 0]
  r3 : Whole W (w.heap.size + 1 + 1) 118 [.int .i64 0, .int .i64 0, .int .i64 0, .int .u8 0, .int .u8 0, .int .u8 0, .int .u8 0]
  r5 : Whole W (w.heap.size + 1 + 1 + 1) 118 cell
  bel : Below w.heap.size w W
section
variable {w W W' : World} {a : Option Addr} {n c T : Nat} {E : Int} {cell : List Value}
theorem On.later (h : On w W a n c T E cell) (hb : Below W.heap.size W W') : On w W' a n c T E cell := ⟨h.r1.later hb, h.r2.later hb, h.r3.later hb, h.r5.later hb, h.bel.trans (hb.mono h.bel.size)⟩
theorem On.putR (h : On w W a n c T E cell) (T' : Nat) (E' : Int) : On w (((W.setCell ⟨w.heap.size, 0, none⟩ (.slice a n c)).setCell ⟨w.heap.size, 1, none⟩ (.int .i64 (T' : Int))).setCell ⟨w.heap.size, 2, none⟩ (.int .i64 E')) a n c T' E' cell :=
  ⟨((h.r1.put 0 _).put 1 _).put 2 _, whole_put (whole_put (whole_put h.r2 (by omega) _) (by omega) _) (by omega) _, whole_put (whole_put (whole_put h.r3 (by omega) _) (by omega) _) (by omega) _, whole_put (whole_put (whole_put h.r5 (by omega) _) (by omega) _) (by omega) _,
    ((h.bel.setCell (p := ⟨w.heap.size, 0, none⟩) (Nat.le_refl _) _).setCell (p := ⟨w.heap.size, 1, none⟩) (Nat.le_refl _) _).setCell (p := ⟨w.heap.size, 2, none⟩) (Nat.le_refl _) _⟩
theorem On.putC (h : On w W a n c T E cell) (i : Nat) (v : Value) : On w (W.setCell ⟨w.heap.size + 1 + 1 + 1, i, none⟩ v) a n c T E (cell.set i v) :=
  ⟨whole_put h.r1 (by omega) _, whole_put h.r2 (by omega) _, whole_put h.r3 (by omega) _, h.r5.put i v, h.bel.setCell (p := ⟨w.heap.size + 1 + 1 + 1, i, none⟩) (by show w.heap.size ≤ w.heap.size + 1 + 1 + 1; omega) _⟩
theorem On.putF {q i : Nat} (h : On w W a n c T E cell) (hq : w.heap.size + 4 ≤ q) (v : Value) : On w (W.setCell ⟨q, i, none⟩ v) a n c T E cell :=
  ⟨whole_put h.r1 (by omega) _, whole_put h.r2 (by omega) _, whole_put h.r3 (by omega) _, whole_put h.r5 (by omega) _, h.bel.setCell (p := ⟨q, i, none⟩) (by simp; omega) _⟩
theorem On.lt (h : On w W a n c T E cell) : w.heap.size + 4 ≤ W.heap.size := by have := h.r5.lt; omega
end
/-- .. and the reader that is next, the pen. -/
structure Pe (w W : World) (a : Option Addr) (n c T T2 : Nat) (E E4 : Int) (cell : List Value) (q7 q9 : Nat) (F G B : Nat) : Prop where
  on : On w W a n c T E cell
  r7 : Whole W q7 52 [.slice a n c, .int .i64 (T2 : Int), .int .i64 E4]
  r9 : Whole W q9 116 [.int .u8 (F : Int), .int .u8 (G : Int), .int .u8 (B : Int)]
/-- The call answered with a reader, a cell and a bool, and left all that was there. -/
def OneD (w : World) (a : Option Addr) (n c : Nat) (x : (Nat × Int) × Cel × Bool) (e : Ending) (w' : World) : Prop :=
  e = .returned (.tuple #[.agg #[.slice a n c, .int .i64 (x.1.1 : Int), .int .i64 x.1.2], .agg #[.int .i64 x.2.1.r, .int .i64 x.2.1.m, .int .i64 x.2.1.n, .int .u8 (x.2.1.w : Int), .int .u8 (x.2.1.p.f : Int), .int .u8 (x.2.1.p.g : Int), .int .u8 (x.2.1.p.b : Int)], .bool x.2.2]) ∧ Below w.heap.size w w'
theorem ret373 {R : Ending → World → Prop} {act : Act} {w : World} {fn : Func} {s u z : Nat} {p q : Nat} {a0 a1 a2 x0 x1 x2 x3 x4 x5 x6 v : Value} (hr : fn.results = #[.cell s 52, .cell u 118, .tmp z]) (h4 : act.tmps.getD s undef = .pointer (some ⟨p, 0, none⟩)) (h5 : act.tmps.getD u undef = .pointer (some ⟨q, 0, none⟩)) (h6 : act.tmps.getD z undef = v) (hd : act.defers = [])
    (hw : Whole w p 52 [a0, a1, a2]) (hc : Whole w q 118 [x0, x1, x2, x3, x4, x5, x6]) (hR : R (.returned (.tuple #[.agg #[a0, a1, a2], .agg #[x0, x1, x2, x3, x4, x5, x6], v])) w) : bodyPost Tryd.prog fn R .ret act w := by
  have k0 : w.cell? ⟨p, 0, none⟩ = some a0 := hw.cell 0
  have k1 : w.cell? ⟨p, 1, none⟩ = some a1 := hw.cell 1
  have k2 : w.cell? ⟨p, 2, none⟩ = some a2 := hw.cell 2
  have c0 : w.cell? ⟨q, 0, none⟩ = some x0 := hc.cell 0
  have c1 : w.cell? ⟨q, 1, none⟩ = some x1 := hc.cell 1
  have c2 : w.cell? ⟨q, 2, none⟩ = some x2 := hc.cell 2
  have c3 : w.cell? ⟨q, 3, none⟩ = some x3 := hc.cell 3
  have c4 : w.cell? ⟨q, 4, none⟩ = some x4 := hc.cell 4
  have c5 : w.cell? ⟨q, 5, none⟩ = some x5 := hc.cell 5
  have c6 : w.cell? ⟨q, 6, none⟩ = some x6 := hc.cell 6
  clear hw hc
  rw [Array.getD_eq_getD_getElem?] at h4 h5 h6
  exact bodyPost_ret (v := .tuple #[.agg #[a0, a1, a2], .agg #[x0, x1, x2, x3, x4, x5, x6], v]) (by simp [results, hr, h4, h5, h6, k0, k1, k2, c0, c1, c2, c3, c4, c5, c6, go_sem]) hd hR
theorem On.ends {w W : World} {a : Option Addr} {n c T : Nat} {E : Int} {x0 x1 x2 : Int} {x3 x4 x5 x6 : Nat} (h : On w W a n c T E [.int .i64 x0, .int .i64 x1, .int .i64 x2, .int .u8 (x3 : Int), .int .u8 (x4 : Int), .int .u8 (x5 : Int), .int .u8 (x6 : Int)]) :
    Whole ((((((((((W.setCell ⟨w.heap.size + 1, 0, none⟩ (.slice a n c)).setCell ⟨w.heap.size + 1, 1, none⟩ (.int .i64 (T : Int))).setCell ⟨w.heap.size + 1, 2, none⟩ (.int .i64 E)).setCell ⟨w.heap.size + 1 + 1, 0, none⟩ (.int .i64 x0)).setCell ⟨w.heap.size + 1 + 1, 1, none⟩ (.int .i64 x1)).setCell ⟨w.heap.size + 1 + 1, 2, none⟩ (.int .i64 x2)).setCell ⟨w.heap.size + 1 + 1, 3, none⟩ (.int .u8 (x3 : Int))).setCell ⟨w.heap.size + 1 + 1, 4, none⟩ (.int .u8 (x4 : Int))).setCell ⟨w.heap.size + 1 + 1, 5, none⟩ (.int .u8 (x5 : Int))).setCell ⟨w.heap.size + 1 + 1, 6, none⟩ (.int .u8 (x6 : Int))) (w.heap.size + 1) 52 [.slice a n c, .int .i64 (T : Int), .int .i64 E] ∧ Whole ((((((((((W.setCell ⟨w.heap.size + 1, 0, none⟩ (.slice a n c)).setCell ⟨w.heap.size + 1, 1, none⟩ (.int .i64 (T : Int))).setCell ⟨w.heap.size + 1, 2, none⟩ (.int .i64 E)).setCell ⟨w.heap.size + 1 + 1, 0, none⟩ (.int .i64 x0)).setCell ⟨w.heap.size + 1 + 1, 1, none⟩ (.int .i64 x1)).setCell ⟨w.heap.size + 1 + 1, 2, none⟩ (.int .i64 x2)).setCell ⟨w.heap.size + 1 + 1, 3, none⟩ (.int .u8 (x3 : Int))).setCell ⟨w.heap.size + 1 + 1, 4, none⟩ (.int .u8 (x4 : Int))).setCell ⟨w.heap.size + 1 + 1, 5, none⟩ (.int .u8 (x5 : Int))).setCell ⟨w.heap.size + 1 + 1, 6, none⟩ (.int .u8 (x6 : Int))) (w.heap.size + 1 + 1) 118 [.int .i64 x0, .int .i64 x1, .int .i64 x2, .int .u8 (x3 : Int), .int .u8 (x4 : Int), .int .u8 (x5 : Int), .int .u8 (x6 : Int)] ∧ Below w.heap.size w ((((((((((W.setCell ⟨w.heap.size + 1, 0, none⟩ (.slice a n c)).setCell ⟨w.heap.size + 1, 1, none⟩ (.int .i64 (T : Int))).setCell ⟨w.heap.size + 1, 2, none⟩ (.int .i64 E)).setCell ⟨w.heap.size + 1 + 1, 0, none⟩ (.int .i64 x0)).setCell ⟨w.heap.size + 1 + 1, 1, none⟩ (.int .i64 x1)).setCell ⟨w.heap.size + 1 + 1, 2, none⟩ (.int .i64 x2)).setCell ⟨w.heap.size + 1 + 1, 3, none⟩ (.int .u8 (x3 : Int))).setCell ⟨w.heap.size + 1 + 1, 4, none⟩ (.int .u8 (x4 : Int))).setCell ⟨w.heap.size + 1 + 1, 5, none⟩ (.int .u8 (x5 : Int))).setCell ⟨w.heap.size + 1 + 1, 6, none⟩ (.int .u8 (x6 : Int))) :=
  ⟨whole_put (whole_put (whole_put (whole_put (whole_put (whole_put (whole_put (((h.r2.put 0 _).put 1 _).put 2 _) (by omega) _) (by omega) _) (by omega) _) (by omega) _) (by omega) _) (by omega) _) (by omega) _, (((((((whole_put (whole_put (whole_put (h.r3) (by omega) _) (by omega) _) (by omega) _).put 0 _).put 1 _).put 2 _).put 3 _).put 4 _).put 5 _).put 6 _, ((((((((((h.bel).setCell (p := ⟨w.heap.size + 1, 0, none⟩) (by show w.heap.size ≤ w.heap.size + 1; omega) _).setCell (p := ⟨w.heap.size + 1, 1, none⟩) (by show w.heap.size ≤ w.heap.size + 1; omega) _).setCell (p := ⟨w.heap.size + 1, 2, none⟩) (by show w.heap.size ≤ w.heap.size + 1; omega) _).setCell (p := ⟨w.heap.size + 1 + 1, 0, none⟩) (by show w.heap.size ≤ w.heap.size + 1 + 1; omega) _).setCell (p := ⟨w.heap.size + 1 + 1, 1, none⟩) (by show w.heap.size ≤ w.heap.size + 1 + 1; omega) _).setCell (p := ⟨w.heap.size + 1 + 1, 2, none⟩) (by show w.heap.size ≤ w.heap.size + 1 + 1; omega) _).setCell (p := ⟨w.heap.size + 1 + 1, 3, none⟩) (by show w.heap.size ≤ w.heap.size + 1 + 1; omega) _).setCell (p := ⟨w.heap.size + 1 + 1, 4, none⟩) (by show w.heap.size ≤ w.heap.size + 1 + 1; omega) _).setCell (p := ⟨w.heap.size + 1 + 1, 5, none⟩) (by show w.heap.size ≤ w.heap.size + 1 + 1; omega) _).setCell (p := ⟨w.heap.size + 1 + 1, 6, none⟩) (by show w.heap.size ≤ w.heap.size + 1 + 1; omega) _⟩
theorem ret_on {fn : Func} {act : Act} {w W : World} {a : Option Addr} {n c T : Nat} {E : Int} {x0 x1 x2 : Int} {x3 x4 x5 x6 : Nat} {ok : Bool} {xs : List Int} {s : Nat × Int} (h : On w W a n c T E [.int .i64 x0, .int .i64 x1, .int .i64 x2, .int .u8 (x3 : Int), .int .u8 (x4 : Int), .int .u8 (x5 : Int), .int .u8 (x6 : Int)])
    (hr : fn.results = #[.cell 2 52, .cell 3 118, .tmp 4]) (h4 : act.tmps.getD 2 undef = .pointer (some ⟨w.heap.size + 1, 0, none⟩)) (h5 : act.tmps.getD 3 undef = .pointer (some ⟨w.heap.size + 1 + 1, 0, none⟩)) (h6 : act.tmps.getD 4 undef = .bool ok) (hd : act.defers = []) (hE : oneD xs s = ((T, E), ⟨x0, x1, x2, x3, ⟨x4, x5, x6⟩⟩, ok)) :
    bodyPost Tryd.prog fn (OneD w a n c (oneD xs s)) .ret act ((((((((((W.setCell ⟨w.heap.size + 1, 0, none⟩ (.slice a n c)).setCell ⟨w.heap.size + 1, 1, none⟩ (.int .i64 (T : Int))).setCell ⟨w.heap.size + 1, 2, none⟩ (.int .i64 E)).setCell ⟨w.heap.size + 1 + 1, 0, none⟩ (.int .i64 x0)).setCell ⟨w.heap.size + 1 + 1, 1, none⟩ (.int .i64 x1)).setCell ⟨w.heap.size + 1 + 1, 2, none⟩ (.int .i64 x2)).setCell ⟨w.heap.size + 1 + 1, 3, none⟩ (.int .u8 (x3 : Int))).setCell ⟨w.heap.size + 1 + 1, 4, none⟩ (.int .u8 (x4 : Int))).setCell ⟨w.heap.size + 1 + 1, 5, none⟩ (.int .u8 (x5 : Int))).setCell ⟨w.heap.size + 1 + 1, 6, none⟩ (.int .u8 (x6 : Int))).drew := by
  obtain ⟨e1, e2, e3⟩ := h.ends
  rw [hE]
  exact ret373 hr h4 h5 h6 hd e1.drew e2.drew ⟨rfl, e3.drewN 1⟩
theorem up_t {xs : List Int} {s : Nat × Int} {most er : Int} (hb : Byte xs) (ht : s.1 ≤ xs.length) : (upD xs s most er).1.1 ≤ xs.length := uAt_le s.2 most hb ht
theorem pen_cut {xs : List Int} {s : Nat × Int} {T : Nat} {E N N2 E2 : Int} {p : Pn} {ok : Bool} (h : numD xs s = ((T, E), N)) (hN : N2 = if E = 0 ∧ 16927 < N then 0 else N) (hE : E2 = if E = 0 ∧ 16927 < N then 5 else E) (hP : ofN N2 = (p, ok)) :
    penD xs s = ((T, if ok = true then E2 else fEr E2 5), p) := by
  unfold penD
  simp only [h]
  have o0 : ofN 0 = (zeroP, true) := by decide
  by_cases q : E = 0 ∧ 16927 < N
  · rw [if_pos q] at hN hE ⊢
    rw [hN, o0] at hP
    cases hP
    rw [hE, o0]
    rfl
  · rw [if_neg q] at hN hE ⊢
    rw [hN] at hP
    rw [hE, hP]

theorem rrone_any (a : Option Addr) (n c : Nat) (xs : List Int) (s : Nat × Int) (w : World) (hi : Ints .u8 w a xs) (hl : xs.length = n) (hb : Byte xs) (hn : n ≤ 1000000) (hc : n ≤ c) (ht : s.1 ≤ n) :
    Calls Tryd.prog 56 #[.agg #[.slice a n c, .int .i64 (s.1 : Int), .int .i64 s.2]] w (OneD w a n c (oneD xs s)) := by
  obtain ⟨T0, E0⟩ := s
  simp only at ht
  obtain ⟨W0, hW0⟩ : ∃ W0, (((w.alloc (.cells #[.slice a n c, .int .i64 (T0 : Int), .int .i64 E0] 52)).alloc (.cells #[.slice none 0 0, .int .i64 0, .int .i64 0] 52)).alloc (.cells #[.int .i64 0, .int .i64 0, .int .i64 0, .int .u8 0, .int .u8 0, .int .u8 0, .int .u8 0] 118)).alloc (.cells #[.int .i64 0, .int .i64 0, .int .i64 0, .int .u8 0, .int .u8 0, .int .u8 0, .int .u8 0] 118) = W0 := ⟨_, rfl⟩
  have HO0 : Hid (On w W0 a n c T0 E0 [.int .i64 0, .int .i64 0, .int .i64 0, .int .u8 0, .int .u8 0, .int .u8 0, .int .u8 0]) := by
    unfold Hid
    rw [← hW0]
    refine ⟨(((Whole.new w 52 [.slice a n c, .int .i64 (T0 : Int), .int .i64 E0]).alloc _).alloc _).alloc _, ((whole_snd w _ 52 [.slice none 0 0, .int .i64 0, .int .i64 0]).alloc _).alloc _, (whole_thd w _ _ 118 [.int .i64 0, .int .i64 0, .int .i64 0, .int .u8 0, .int .u8 0, .int .u8 0, .int .u8 0]).alloc _, ?_, ?_⟩
    · have := Whole.new (((w.alloc (.cells #[.slice a n c, .int .i64 (T0 : Int), .int .i64 E0] 52)).alloc (.cells #[.slice none 0 0, .int .i64 0, .int .i64 0] 52)).alloc (.cells #[.int .i64 0, .int .i64 0, .int .i64 0, .int .u8 0, .int .u8 0, .int .u8 0, .int .u8 0] 118)) 118 [.int .i64 0, .int .i64 0, .int .i64 0, .int .u8 0, .int .u8 0, .int .u8 0, .int .u8 0]
      simpa using this
    · exact ((((Below.refl _ _).alloc (Nat.le_refl _) _).alloc (by simp) _).alloc (by simp; omega) _).alloc (by simp; omega) _
  obtain ⟨v0, v1⟩ := upD_bd (xs := xs) (s := (T0, E0)) (most := 2) (er := 5) hb (by omega)
  have t1 := up_t (most := 2) (er := 5) hb (s := (T0, E0)) (by rw [hl]; exact ht)
  obtain ⟨⟨⟨T1, E1⟩, V⟩, hU⟩ : ∃ U, upD xs (T0, E0) 2 5 = U := ⟨_, rfl⟩
  rw [hU] at v0 v1 t1
  simp only at v0 v1 t1
  obtain ⟨d, rfl⟩ : ∃ d : Nat, V = (d : Int) := ⟨V.toNat, by omega⟩
  have hd : d ≤ 2 := by omega
  have HU := hide hU
  have HI := hide hi
  have HL := hide hl
  have HB := hide hb
  have t2 := nAt_le (t := T1) E1 hb t1
  obtain ⟨n0, n1, nz⟩ := nVal_bd xs T1 E1 hb
  obtain ⟨⟨⟨T2, E2⟩, V⟩, hNU⟩ : ∃ U, numD xs (T1, E1) = U := ⟨_, rfl⟩
  have hnu := hNU
  unfold numD at hnu
  simp only [Prod.mk.injEq] at hnu
  rw [hnu.1.1] at t2
  rw [hnu.2] at n0 n1 nz
  rw [hnu.1.2] at nz
  obtain ⟨N, rfl⟩ : ∃ N : Nat, V = (N : Int) := ⟨V.toNat, by omega⟩
  have HNU := hide hNU
  have HNZ : Hid (E2 ≠ 0 → (N : Int) = 0) := nz
  have HW0 := hide hW0
  clear hW0 hU hi hl v0 v1 hb hNU hnu nz
  go_enter Tryd.func56, Tryd.ntmps56
  have r0 := HO0.out.r1.cell 0
  have r1 := HO0.out.r1.cell 1
  have r2 := HO0.out.r1.cell 2
  have rz0 := HO0.out.r1.frozen 0
  have rz1 := HO0.out.r1.frozen 1
  have rz2 := HO0.out.r1.frozen 2
  have rl := HO0.out.r1.lt
  simp only [List.getElem?_cons_zero, List.getElem?_cons_succ] at r0 r1 r2
  go_wp2_with fail
  rw [HW0.out]
  refine (rup a n c xs T0 E0 2 5 W0 (HI.out.below HO0.out.bel) HL.out HB.out hn hc ht (by omega)).mono ?_
  have hu : (upD xs (T0, E0) 2 5) = ((T1, E1), (d : Int)) := HU.out
  unfold upD at hu
  simp only [Prod.mk.injEq] at hu
  rw [hu.1.1, hu.1.2, hu.2]
  rintro e w1 ⟨rfl, hb1⟩
  have HO1 := hide (HO0.out.later hb1)
  clear hb1 hu r0 r1 r2 rz0 rz1 rz2 rl
  have r0 := HO1.out.r1.cell 0
  have r1 := HO1.out.r1.cell 1
  have r2 := HO1.out.r1.cell 2
  have rz0 := HO1.out.r1.frozen 0
  have rz1 := HO1.out.r1.frozen 1
  have rz2 := HO1.out.r1.frozen 2
  have rl := HO1.out.r1.lt
  simp only [List.getElem?_cons_zero, List.getElem?_cons_succ] at r0 r1 r2
  have HO2 := hide (HO1.out.putR T1 E1)
  obtain ⟨w2, hw2⟩ : ∃ w2, ((w1.setCell ⟨w.heap.size, 0, none⟩ (.slice a n c)).setCell ⟨w.heap.size, 1, none⟩ (.int .i64 (T1 : Int))).setCell ⟨w.heap.size, 2, none⟩ (.int .i64 E1) = w2 := ⟨_, rfl⟩
  rw [hw2] at HO2
  have HW2 := hide hw2
  clear hw2
  go_wp2_with fail
  rw [HW2.out]
  refine (rnumber a n c xs T1 E1 w2 (HI.out.below HO2.out.bel) HL.out HB.out hn hc (by rw [← HL.out]; exact t1)).mono ?_
  have hu : numD xs (T1, E1) = ((T2, E2), (N : Int)) := HNU.out
  unfold numD at hu
  simp only [Prod.mk.injEq] at hu
  rw [hu.1.1, hu.1.2, hu.2]
  rintro e w3 ⟨rfl, hb3⟩
  have HO3 := hide (HO2.out.later hb3)
  clear hb3 hu r0 r1 r2 rz0 rz1 rz2 rl
  obtain ⟨w4, hw4⟩ : ∃ w4, w3.alloc (.cells #[.slice a n c, .int .i64 (T2 : Int), .int .i64 E2] 52) = w4 := ⟨_, rfl⟩
  have hb4 : Below w3.heap.size w3 w4 := by rw [← hw4]; exact (Below.refl _ _).alloc (Nat.le_refl _) _
  have hx4 : Whole w4 w3.heap.size 52 [.slice a n c, .int .i64 (T2 : Int), .int .i64 E2] := by rw [← hw4]; exact Whole.new w3 52 _
  obtain ⟨q7, hq7⟩ : ∃ q7, w3.heap.size = q7 := ⟨_, rfl⟩
  have HO4 := hide (HO3.out.later hb4)
  have HQ7 : Hid (w.heap.size + 4 ≤ q7) := by unfold Hid; rw [← hq7]; exact HO3.out.lt
  rw [hq7] at hx4
  have HX4 := hide hx4
  have HW4 := hide hw4
  clear hb4 hx4 hw4
  go_upto_region 4 with fail
  rw [HW4.out]
  clear hq7
  have x0 := HX4.out.cell 2
  simp only [List.getElem?_cons_zero, List.getElem?_cons_succ] at x0
  have xl := HX4.out.lt
  have xz := HX4.out.frozen 2
  go_cut [29] from 23 to 29 (fun v wx => v = .bool (decide (E2 = 0 ∧ 16927 < (N : Int))) ∧ wx = w4)
  case first =>
    by_cases hE : E2 = 0
    · have hE2 : (E2 == 0) = true := by simpa using hE
      have HEE := hide hE
      clear hE
      by_cases hN : (16927 : Int) < (N : Int)
      · go_wp2
        go_meet
        case rel => exact ⟨by simp [HEE.out, hN], rfl⟩
      · go_wp2
        go_meet
        case rel => exact ⟨by simp [HEE.out, hN], rfl⟩
    · have hE2 : (E2 == 0) = false := by simpa using hE
      have HEE := hide hE
      clear hE
      go_wp2
      go_meet
      case rel => exact ⟨by simp [HEE.out], rfl⟩
  case rest =>
    obtain ⟨hv, hwc⟩ := hcut
    subst hv
    rw [hwc]
    clear hwc
    go_upto_if 29 with fail
    obtain ⟨N2, E3, w5, hN2, hE3, hw5, hNb, HO5, HX5⟩ : ∃ (N2 : Nat) (E3 : Int) (w5 : World), (N2 : Int) = (if E2 = 0 ∧ 16927 < (N : Int) then 0 else (N : Int)) ∧ E3 = (if E2 = 0 ∧ 16927 < (N : Int) then 5 else E2) ∧ w5 = (if E2 = 0 ∧ 16927 < (N : Int) then w4.setCell ⟨q7, 2, none⟩ (.int .i64 5) else w4) ∧ N2 ≤ 16927 ∧ Hid (On w w5 a n c T1 E1 [.int .i64 0, .int .i64 0, .int .i64 0, .int .u8 0, .int .u8 0, .int .u8 0, .int .u8 0]) ∧ Hid (Whole w5 q7 52 [.slice a n c, .int .i64 (T2 : Int), .int .i64 E3]) := by
      by_cases q : E2 = 0 ∧ 16927 < (N : Int)
      · exact ⟨0, 5, w4.setCell ⟨q7, 2, none⟩ (.int .i64 5), by rw [if_pos q]; rfl, by rw [if_pos q], by rw [if_pos q], by omega, HO4.out.putF HQ7.out _, HX4.out.put 2 _⟩
      · refine ⟨N, E2, w4, by rw [if_neg q], by rw [if_neg q], by rw [if_neg q], ?_, HO4, HX4⟩
        by_cases z : E2 = 0
        · have : ¬ 16927 < (N : Int) := fun y => q ⟨z, y⟩
          omega
        · have := HNZ.out z
          omega
    have HN2 := hide hN2
    have HE3 := hide hE3
    go_cut [8] from 23 to 30 (fun v wx => v = .int .u64 (N2 : Int) ∧ wx = w5)
    case first =>
      by_cases hq : E2 = 0 ∧ 16927 < (N : Int)
      · rw [if_pos hq] at hN2 hw5
        rw [decide_eq_true hq]
        go_wp2
        go_meet
        case rel => exact ⟨by rw [hN2], hw5.symm⟩
      · rw [if_neg hq] at hN2 hw5
        rw [decide_eq_false hq]
        go_wp2
        go_meet
        case rel => exact ⟨by rw [hN2], hw5.symm⟩
    case rest =>
      obtain ⟨hv, hwc⟩ := hcut
      subst hv
      rw [hwc]
      clear hwc hw5 hN2 hE3 x0 xl xz
      obtain ⟨⟨⟨F, G, B⟩, ok⟩, hP⟩ : ∃ P, ofN (N2 : Int) = P := ⟨_, rfl⟩
      have HPN := hide (pen_cut HNU.out HN2.out HE3.out hP)
      have hpb := ofN_bd (N2 : Int)
      rw [hP] at hpb
      simp only at hpb
      have HP := hide hP
      clear hP
      go_wp2_with fail
      refine (pn_rof_any (N2 : Int) w5).mono ?_
      rw [HP.out]
      rintro e w6 ⟨rfl, hb6⟩
      obtain ⟨w7, hw7⟩ : ∃ w7, w6.alloc (.cells #[.int .u8 (F : Int), .int .u8 (G : Int), .int .u8 (B : Int)] 116) = w7 := ⟨_, rfl⟩
      have hb7 : Below w6.heap.size w6 w7 := by rw [← hw7]; exact (Below.refl _ _).alloc (Nat.le_refl _) _
      have hx7 : Whole w7 w6.heap.size 116 [.int .u8 (F : Int), .int .u8 (G : Int), .int .u8 (B : Int)] := by rw [← hw7]; exact Whole.new w6 116 _
      have HPE7 : Hid (Pe w w7 a n c T1 T2 E1 E3 [.int .i64 0, .int .i64 0, .int .i64 0, .int .u8 0, .int .u8 0, .int .u8 0, .int .u8 0] q7 w6.heap.size F G B) := ⟨(HO5.out.later hb6).later hb7, (HX5.out.later hb6).later hb7, hx7⟩
      have HQ9 : Hid (w.heap.size + 4 ≤ w6.heap.size ∧ q7 < w6.heap.size) := ⟨(HO5.out.later hb6).lt, (HX5.out.later hb6).lt⟩
      obtain ⟨q9, hq9⟩ : ∃ q9, w6.heap.size = q9 := ⟨_, rfl⟩
      rw [hq9] at HPE7 HQ9
      have HW7 := hide hw7
      clear hb6 hb7 hx7 hw7 HO5 HX5
      go_upto_if 38 with fail
      rw [HW7.out]
      clear hq9
      obtain ⟨E4, hE4⟩ : ∃ E4, (if ok = true then E3 else fEr E3 5) = E4 := ⟨_, rfl⟩
      rw [hE4] at HPN
      have HE4 := hide hE4
      clear hE4
      go_cut [40] from 31 to 40 (fun _ wx => Hid (Pe w wx a n c T1 T2 E1 E4 [.int .i64 0, .int .i64 0, .int .i64 0, .int .u8 0, .int .u8 0, .int .u8 0, .int .u8 0] q7 q9 F G B))
      case first =>
        rcases Bool.eq_false_or_eq_true ok with hk | hk
        · have hnk : (!ok) = false := by rw [hk]; rfl
          have HK := hide hk
          rw [hnk]
          clear hnk hk
          go_wp2
          go_meet
          case rel =>
            have e4 := HE4.out
            rw [if_pos HK.out] at e4
            rw [← e4]
            exact HPE7
        · have hnk : (!ok) = true := by rw [hk]; rfl
          have HK := hide hk
          rw [hnk]
          clear hnk hk
          have y0 := HPE7.out.r7.cell 0
          have y1 := HPE7.out.r7.cell 1
          have y2 := HPE7.out.r7.cell 2
          have yl := HPE7.out.r7.lt
          simp only [List.getElem?_cons_zero, List.getElem?_cons_succ] at y0 y1 y2
          go_wp2_with fail
          refine (rfail a n c T2 E3 5 w7).mono ?_
          rintro e w8 ⟨rfl, hb8⟩
          have HO8 := hide (HPE7.out.on.later hb8)
          have HX8 := hide (HPE7.out.r7.later hb8)
          have HY8 := hide (HPE7.out.r9.later hb8)
          clear hb8 y0 y1 y2 yl
          have y0 := HX8.out.cell 0
          have y1 := HX8.out.cell 1
          have y2 := HX8.out.cell 2
          have z0 := HX8.out.frozen 0
          have z1 := HX8.out.frozen 1
          have z2 := HX8.out.frozen 2
          have yl := HX8.out.lt
          simp only [List.getElem?_cons_zero, List.getElem?_cons_succ] at y0 y1 y2
          go_wp2
          go_meet
          case rel =>
            have e4 := HE4.out
            rw [if_neg (by rw [HK.out]; simp)] at e4
            rw [← e4]
            exact ⟨((HO8.out.putF HQ7.out _).putF HQ7.out _).putF HQ7.out _, ((HX8.out.put 0 _).put 1 _).put 2 _, whole_put (whole_put (whole_put HY8.out (by have := HQ9.out; omega) _) (by have := HQ9.out; omega) _) (by have := HQ9.out; omega) _⟩
      case rest =>
        have HPE := hcut
        clear hcut HPE7
        have hx7 := HPE.out.r7
        have x0 := hx7.cell 0
        have x1 := hx7.cell 1
        have x2 := hx7.cell 2
        have xl := hx7.lt
        simp only [List.getElem?_cons_zero, List.getElem?_cons_succ] at x0 x1 x2
        have r0 := HPE.out.on.r1.cell 0
        have r1 := HPE.out.on.r1.cell 1
        have r2 := HPE.out.on.r1.cell 2
        have rz0 := HPE.out.on.r1.frozen 0
        have rz1 := HPE.out.on.r1.frozen 1
        have rz2 := HPE.out.on.r1.frozen 2
        have rl := HPE.out.on.r1.lt
        simp only [List.getElem?_cons_zero, List.getElem?_cons_succ] at r0 r1 r2
        obtain ⟨w10, hw10⟩ : ∃ w10, ((wc.setCell ⟨w.heap.size, 0, none⟩ (.slice a n c)).setCell ⟨w.heap.size, 1, none⟩ (.int .i64 (T2 : Int))).setCell ⟨w.heap.size, 2, none⟩ (.int .i64 E4) = w10 := ⟨_, rfl⟩
        have HO10 := hide (HPE.out.on.putR T2 E4)
        have hy10 : Whole (((wc.setCell ⟨w.heap.size, 0, none⟩ (.slice a n c)).setCell ⟨w.heap.size, 1, none⟩ (.int .i64 (T2 : Int))).setCell ⟨w.heap.size, 2, none⟩ (.int .i64 E4)) q9 116 [.int .u8 (F : Int), .int .u8 (G : Int), .int .u8 (B : Int)] := whole_put (whole_put (whole_put HPE.out.r9 (by have := HQ9.out; omega) _) (by have := HQ9.out; omega) _) (by have := HQ9.out; omega) _
        rw [hw10] at HO10 hy10
        have HY10 := hide hy10
        have HW10 := hide hw10
        clear hx7 hw10 hy10
        go_upto_region 11 with fail
        rw [HW10.out]
        clear x0 x1 x2 xl r0 r1 r2 rz0 rz1 rz2 rl
        have p0 := HY10.out.cell 0
        have p1 := HY10.out.cell 1
        have p2 := HY10.out.cell 2
        simp only [List.getElem?_cons_zero, List.getElem?_cons_succ] at p0 p1 p2
        have k3 := HO10.out.r5.cell 3
        have kz3 := HO10.out.r5.frozen 3
        have k4 := HO10.out.r5.cell 4
        have kz4 := HO10.out.r5.frozen 4
        have k5 := HO10.out.r5.cell 5
        have kz5 := HO10.out.r5.frozen 5
        have k6 := HO10.out.r5.cell 6
        have kz6 := HO10.out.r5.frozen 6
        have kl := HO10.out.r5.lt
        simp only [List.getElem?_cons_zero, List.getElem?_cons_succ] at k3 k4 k5 k6
        obtain ⟨w12, hw12⟩ : ∃ w12, (((w10.setCell ⟨w.heap.size + 1 + 1 + 1, 3, none⟩ (.int .u8 (d : Int))).setCell ⟨w.heap.size + 1 + 1 + 1, 4, none⟩ (.int .u8 (F : Int))).setCell ⟨w.heap.size + 1 + 1 + 1, 5, none⟩ (.int .u8 (G : Int))).setCell ⟨w.heap.size + 1 + 1 + 1, 6, none⟩ (.int .u8 (B : Int)) = w12 := ⟨_, rfl⟩
        have HO12' : Hid (On w ((((w10.setCell ⟨w.heap.size + 1 + 1 + 1, 3, none⟩ (.int .u8 (d : Int))).setCell ⟨w.heap.size + 1 + 1 + 1, 4, none⟩ (.int .u8 (F : Int))).setCell ⟨w.heap.size + 1 + 1 + 1, 5, none⟩ (.int .u8 (G : Int))).setCell ⟨w.heap.size + 1 + 1 + 1, 6, none⟩ (.int .u8 (B : Int))) a n c T2 E4 [.int .i64 0, .int .i64 0, .int .i64 0, .int .u8 (d : Int), .int .u8 (F : Int), .int .u8 (G : Int), .int .u8 (B : Int)]) := (((HO10.out.putC 3 _).putC 4 _).putC 5 _).putC 6 _
        rw [hw12] at HO12'
        obtain ⟨w13, hw13⟩ : ∃ w13, w12.drew = w13 := ⟨_, rfl⟩
        have HO13 : Hid (On w w13 a n c T2 E4 [.int .i64 0, .int .i64 0, .int .i64 0, .int .u8 (d : Int), .int .u8 (F : Int), .int .u8 (G : Int), .int .u8 (B : Int)]) := by unfold Hid; rw [← hw13]; exact HO12'.out.later ((Below.refl _ _).drewN 1)
        have HW12 := hide hw12
        have HW13 := hide hw13
        clear hw12 hw13
        refine wp_region_chainL (fun w' => Whole w' q9 116 [.int .u8 (F : Int), .int .u8 (G : Int), .int .u8 (B : Int)]) 6 [(0, 0), (0, 1), (0, 3), (0, 2), (1, 4), (1, 5), (3, 6)] (by kernel_rfl) (by kernel_rfl) (by kernel_rfl) (fun _ _ _ _ _ h => h) ?_ ?_
        · exact HY10.out.later ((Below.refl _ _).drewN 1)
        refine chainL_take (v := ?_) (by simp only [List.getElem?_toArray, List.getElem?_cons_zero]; rfl) (by rfl) (fun w hS => ?_) ?_
        rotate_left
        · go_simp <;> with_reducible rfl
        simp only [Act.put, List.setIfInBounds_toArray, List.set_cons_zero, List.set_cons_succ]
        refine chainL_take (v := ?_) (by simp only [List.getElem?_toArray, List.getElem?_cons_zero, List.getElem?_cons_succ]; rfl) (by rfl) (fun w hS => ?_) ?_
        rotate_left
        · go_simp <;> with_reducible rfl
        simp only [Act.put, List.setIfInBounds_toArray, List.set_cons_zero, List.set_cons_succ]
        refine chainL_take (v := ?_) (by simp only [List.getElem?_toArray, List.getElem?_cons_zero, List.getElem?_cons_succ]; rfl) (by rfl) (fun w hS => ?_) ?_
        rotate_left
        · go_simp <;> with_reducible rfl
        simp only [Act.put, List.setIfInBounds_toArray, List.set_cons_zero, List.set_cons_succ]
        refine chainL_take (v := ?_) (by simp only [List.getElem?_toArray, List.getElem?_cons_zero, List.getElem?_cons_succ]; rfl) (by rfl) (fun w hS => ?_) ?_
        rotate_left
        · have s0 := hS.cell 0; have s1 := hS.cell 1; have s2 := hS.cell 2; simp only [List.getElem?_cons_zero, List.getElem?_cons_succ] at s0 s1 s2; go_simp <;> with_reducible rfl
        simp only [Act.put, List.setIfInBounds_toArray, List.set_cons_zero, List.set_cons_succ]
        refine chainL_alone (by simp only [List.getElem?_toArray, List.getElem?_cons_zero, List.getElem?_cons_succ]; rfl) ?_
        intro K hK
        go_wp2
        refine hK.out _ _ (whole_put (HY10.out.later ((Below.refl _ _).drewN 1)) (by have := HQ9.out; omega) _) ?_
        clear hK K
        refine chainL_alone (by simp only [List.getElem?_toArray, List.getElem?_cons_zero, List.getElem?_cons_succ]; rfl) ?_
        intro K hK
        go_wp2
        refine hK.out _ _ (whole_put (HY10.out.later ((Below.refl _ _).drewN 1)) (by have := HQ9.out; omega) _) ?_
        clear hK K
        refine chainL_late (by simp only [List.getElem?_toArray, List.getElem?_cons_zero, List.getElem?_cons_succ]; rfl) ?_
        intro K hK
        go_wp2
        refine hK.out _ _ ?_
        clear hK K
        refine chainL_nil ?_
        go_upto_region 12 with fail
        rw [HW12.out, HW13.out]
        clear p0 p1 p2 k3 kz3 k4 kz4 k5 kz5 k6 kz6 kl
        by_cases hd0 : d = 0
        · have e0 : ((d : Int) == 0) = true := by simp [hd0]
          have HD0 := hide hd0
          clear hd0
          go_upto_region 13 with fail
          have a0 := HO13.out.r2.cell 0
          have az0 := HO13.out.r2.frozen 0
          have a1 := HO13.out.r2.cell 1
          have az1 := HO13.out.r2.frozen 1
          have a2 := HO13.out.r2.cell 2
          have az2 := HO13.out.r2.frozen 2
          have b0 := HO13.out.r3.cell 0
          have bz0 := HO13.out.r3.frozen 0
          have b1 := HO13.out.r3.cell 1
          have bz1 := HO13.out.r3.frozen 1
          have b2 := HO13.out.r3.cell 2
          have bz2 := HO13.out.r3.frozen 2
          have b3 := HO13.out.r3.cell 3
          have bz3 := HO13.out.r3.frozen 3
          have b4 := HO13.out.r3.cell 4
          have bz4 := HO13.out.r3.frozen 4
          have b5 := HO13.out.r3.cell 5
          have bz5 := HO13.out.r3.frozen 5
          have b6 := HO13.out.r3.cell 6
          have bz6 := HO13.out.r3.frozen 6
          have al := HO13.out.r5.lt
          simp only [List.getElem?_cons_zero, List.getElem?_cons_succ] at a0 a1 a2 b0 b1 b2 b3 b4 b5 b6
          refine wp_region_chainL (fun w' => Whole w' w.heap.size 52 [.slice a n c, .int .i64 (T2 : Int), .int .i64 E4] ∧ Whole w' (w.heap.size + 1 + 1 + 1) 118 [.int .i64 0, .int .i64 0, .int .i64 0, .int .u8 (d : Int), .int .u8 (F : Int), .int .u8 (G : Int), .int .u8 (B : Int)]) 3 [(0, 0), (0, 1), (1, 2), (3, 3), (3, 4)] (by kernel_rfl) (by kernel_rfl) (by kernel_rfl) (fun _ _ _ _ _ h => h) ?_ ?_
          · exact ⟨HO13.out.r1.later ((Below.refl _ _).drewN 1), HO13.out.r5.later ((Below.refl _ _).drewN 1)⟩
          refine chainL_take (v := ?_) (by simp only [List.getElem?_toArray, List.getElem?_cons_zero]; rfl) (by rfl) (fun w hS => ?_) ?_
          rotate_left
          · have r0 := hS.1.cell 0; have r1 := hS.1.cell 1; have r2 := hS.1.cell 2; simp only [List.getElem?_cons_zero, List.getElem?_cons_succ] at r0 r1 r2; go_simp <;> with_reducible rfl
          simp only [Act.put, List.setIfInBounds_toArray, List.set_cons_zero, List.set_cons_succ]
          refine chainL_take (v := ?_) (by simp only [List.getElem?_toArray, List.getElem?_cons_zero, List.getElem?_cons_succ]; rfl) (by rfl) (fun w hS => ?_) ?_
          rotate_left
          · have k0 := hS.2.cell 0; have k1 := hS.2.cell 1; have k2 := hS.2.cell 2; have k3 := hS.2.cell 3; have k4 := hS.2.cell 4; have k5 := hS.2.cell 5; have k6 := hS.2.cell 6; simp only [List.getElem?_cons_zero, List.getElem?_cons_succ] at k0 k1 k2 k3 k4 k5 k6; go_simp <;> with_reducible rfl
          simp only [Act.put, List.setIfInBounds_toArray, List.set_cons_zero, List.set_cons_succ]
          refine chainL_alone (by simp only [List.getElem?_toArray, List.getElem?_cons_zero, List.getElem?_cons_succ]; rfl) ?_
          intro K hK
          go_wp2
          refine hK.out _ _ (⟨whole_put (whole_put (whole_put (HO13.out.r1.later ((Below.refl _ _).drewN 1)) (by omega) _) (by omega) _) (by omega) _, whole_put (whole_put (whole_put (HO13.out.r5.later ((Below.refl _ _).drewN 1)) (by omega) _) (by omega) _) (by omega) _⟩) ?_
          clear hK K
          refine chainL_late (by simp only [List.getElem?_toArray, List.getElem?_cons_zero, List.getElem?_cons_succ]; rfl) ?_
          intro K hK
          go_wp2
          refine hK.out _ _ ?_
          clear hK K
          refine chainL_late (by simp only [List.getElem?_toArray, List.getElem?_cons_zero, List.getElem?_cons_succ]; rfl) ?_
          intro K hK
          go_wp2
          refine hK.out _ _ ?_
          clear hK K
          refine chainL_nil ?_
          have HE : Hid (oneD xs (T0, E0) = ((T2, E4), ⟨0, 0, 0, d, ⟨F, G, B⟩⟩, true)) := by
            unfold Hid
            have hu := HU.out
            rw [HD0.out] at hu ⊢
            exact one_0 hu HPN.out
          go_wp2
          exact ret_on HO13.out rfl rfl rfl rfl rfl HE.out
        · have e0 : ((d : Int) == 0) = false := by simp [hd0]
          have HD0 := hide hd0
          clear hd0
          have t2' : T2 ≤ xs.length := t2
          obtain ⟨⟨⟨T3, E5⟩, r⟩, hU3⟩ : ∃ U, upD xs (T2, E4) 1114111 5 = U := ⟨_, rfl⟩
          have t3 := up_t (most := 1114111) (er := 5) (s := (T2, E4)) HB.out t2
          rw [hU3] at t3
          simp only at t3
          obtain ⟨v0, v1⟩ := upD_bd (xs := xs) (s := (T3, E5)) (most := 2) (er := 6) HB.out (by omega)
          have t4 := up_t (most := 2) (er := 6) (s := (T3, E5)) HB.out t3
          obtain ⟨⟨⟨T4, E6⟩, V⟩, hU4⟩ : ∃ U, upD xs (T3, E5) 2 6 = U := ⟨_, rfl⟩
          rw [hU4] at v0 v1 t4
          simp only at v0 v1 t4
          obtain ⟨K, rfl⟩ : ∃ K : Nat, V = (K : Int) := ⟨V.toNat, by omega⟩
          have hK : K ≤ 2 := by omega
          have HU3 := hide hU3
          have HU4 := hide hU4
          clear hU3 hU4 v0 v1
          have r0 := HO13.out.r1.cell 0
          have r1 := HO13.out.r1.cell 1
          have r2 := HO13.out.r1.cell 2
          have rz0 := HO13.out.r1.frozen 0
          have rz1 := HO13.out.r1.frozen 1
          have rz2 := HO13.out.r1.frozen 2
          have rl := HO13.out.r1.lt
          simp only [List.getElem?_cons_zero, List.getElem?_cons_succ] at r0 r1 r2
          have k0 := HO13.out.r5.cell 0
          have kz0 := HO13.out.r5.frozen 0
          have kl := HO13.out.r5.lt
          simp only [List.getElem?_cons_zero] at k0
          go_wp2_with fail
          refine (rup a n c xs T2 E4 1114111 5 w13 (HI.out.below HO13.out.bel) HL.out HB.out hn hc (by rw [← HL.out]; exact t2) (by omega)).mono ?_
          have hu : upD xs (T2, E4) 1114111 5 = ((T3, E5), r) := HU3.out
          unfold upD at hu
          simp only [Prod.mk.injEq] at hu
          rw [hu.1.1, hu.1.2, hu.2]
          rintro e w14 ⟨rfl, hb9⟩
          clear hu
          have HO14 := hide (HO13.out.later hb9)
          clear hb9 r0 r1 r2 rz0 rz1 rz2 rl k0 kz0 kl
          have r0 := HO14.out.r1.cell 0
          have r1 := HO14.out.r1.cell 1
          have r2 := HO14.out.r1.cell 2
          have rz0 := HO14.out.r1.frozen 0
          have rz1 := HO14.out.r1.frozen 1
          have rz2 := HO14.out.r1.frozen 2
          have rl := HO14.out.r1.lt
          simp only [List.getElem?_cons_zero, List.getElem?_cons_succ] at r0 r1 r2
          have k0 := HO14.out.r5.cell 0
          have kz0 := HO14.out.r5.frozen 0
          have kl := HO14.out.r5.lt
          simp only [List.getElem?_cons_zero] at k0
          have HO15 := hide ((HO14.out.putR T3 E5).putC 0 (.int .i64 r))
          obtain ⟨w15, hw15⟩ : ∃ w15, (((w14.setCell ⟨w.heap.size, 0, none⟩ (.slice a n c)).setCell ⟨w.heap.size, 1, none⟩ (.int .i64 (T3 : Int))).setCell ⟨w.heap.size, 2, none⟩ (.int .i64 E5)).setCell ⟨w.heap.size + 1 + 1 + 1, 0, none⟩ (.int .i64 r) = w15 := ⟨_, rfl⟩
          rw [hw15] at HO15
          have HW15 := hide hw15
          clear hw15
          go_wp2_with fail
          rw [HW15.out]
          refine (rup a n c xs T3 E5 2 6 w15 (HI.out.below HO15.out.bel) HL.out HB.out hn hc (by rw [← HL.out]; exact t3) (by omega)).mono ?_
          have hu : upD xs (T3, E5) 2 6 = ((T4, E6), (K : Int)) := HU4.out
          unfold upD at hu
          simp only [Prod.mk.injEq] at hu
          rw [hu.1.1, hu.1.2, hu.2]
          rintro e w16 ⟨rfl, hb9⟩
          clear hu
          have HO16 := hide (HO15.out.later hb9)
          clear hb9 r0 r1 r2 rz0 rz1 rz2 rl k0 kz0 kl
          have r0 := HO16.out.r1.cell 0
          have r1 := HO16.out.r1.cell 1
          have r2 := HO16.out.r1.cell 2
          have rz0 := HO16.out.r1.frozen 0
          have rz1 := HO16.out.r1.frozen 1
          have rz2 := HO16.out.r1.frozen 2
          have rl := HO16.out.r1.lt
          simp only [List.getElem?_cons_zero, List.getElem?_cons_succ] at r0 r1 r2
          have HO17 := hide (HO16.out.putR T4 E6)
          go_wp2
          go_loopw [10, 12] (fun b i wr => ∃ k : Nat, k ≤ K ∧ i = .int .i64 k ∧ b = .bool (marksD xs (T4, E6) (k : Int)).2.2.2 ∧ Hid (On w wr a n c (marksD xs (T4, E6) (k : Int)).1.1 (marksD xs (T4, E6) (k : Int)).1.2 [.int .i64 r, .int .i64 (marksD xs (T4, E6) (k : Int)).2.1, .int .i64 (marksD xs (T4, E6) (k : Int)).2.2.1, .int .u8 (d : Int), .int .u8 (F : Int), .int .u8 (G : Int), .int .u8 (B : Int)])) (fun _ i _ => K - (intOf i).toNat)
          case atStart => exact ⟨0, Nat.zero_le _, rfl, rfl, HO17⟩
          case round =>
            obtain ⟨k, hk, rfl, rfl, HO⟩ := hrel
            clear r0 r1 r2 rz0 rz1 rz2 rl
            by_cases hlt : k < K
            · rcases (by omega : k = 0 ∨ k = 1) with rfl | rfl
              · have HM := hide (marks_1 xs (T4, E6))
                rw [marks_0] at HO ⊢
                simp only at HO ⊢
                obtain ⟨⟨⟨T5, E7⟩, m⟩, hU5⟩ : ∃ U, upD xs (T4, E6) 1114111 5 = U := ⟨_, rfl⟩
                rw [hU5] at HM
                have HU5 := hide hU5
                clear hU5
                have r0 := HO.out.r1.cell 0
                have r1 := HO.out.r1.cell 1
                have r2 := HO.out.r1.cell 2
                have rz0 := HO.out.r1.frozen 0
                have rz1 := HO.out.r1.frozen 1
                have rz2 := HO.out.r1.frozen 2
                have rl := HO.out.r1.lt
                simp only [List.getElem?_cons_zero, List.getElem?_cons_succ] at r0 r1 r2
                have k1 := HO.out.r5.cell 1
                have kz1 := HO.out.r5.frozen 1
                have kl := HO.out.r5.lt
                simp only [List.getElem?_cons_zero, List.getElem?_cons_succ] at k1
                go_wp2_with fail
                refine (rup a n c xs T4 E6 1114111 5 wr (HI.out.below HO.out.bel) HL.out HB.out hn hc (by rw [← HL.out]; exact t4) (by omega)).mono ?_
                have hu : upD xs (T4, E6) 1114111 5 = ((T5, E7), m) := HU5.out
                unfold upD at hu
                simp only [Prod.mk.injEq] at hu
                rw [hu.1.1, hu.1.2, hu.2]
                rintro e w5 ⟨rfl, hb9⟩
                clear hu
                have HO5 := hide (HO.out.later hb9)
                clear hb9 r0 r1 r2 rz0 rz1 rz2 rl k1 kz1 kl
                have r0 := HO5.out.r1.cell 0
                have r1 := HO5.out.r1.cell 1
                have r2 := HO5.out.r1.cell 2
                have rz0 := HO5.out.r1.frozen 0
                have rz1 := HO5.out.r1.frozen 1
                have rz2 := HO5.out.r1.frozen 2
                have rl := HO5.out.r1.lt
                simp only [List.getElem?_cons_zero, List.getElem?_cons_succ] at r0 r1 r2
                have k1 := HO5.out.r5.cell 1
                have kz1 := HO5.out.r5.frozen 1
                have kl := HO5.out.r5.lt
                simp only [List.getElem?_cons_zero, List.getElem?_cons_succ] at k1
                go_wp2
                go_roundw
                case rel =>
                  refine ⟨1, by omega, rfl, ?_, ?_⟩
                  · rw [HM.out]; by_cases h : m = 0 <;> simp [h]
                  · rw [HM.out]; exact (HO5.out.putR T5 E7).putC 1 (.int .i64 m)
                case measure => simp [intOf]; omega
              · have hlt' : ((1 : Nat) : Int) < (K : Int) := by omega
                have HK := hide (⟨hk, hlt, hK⟩ : 1 ≤ K ∧ 1 < K ∧ K ≤ 2)
                clear hk hlt hK
                have HM := hide (marks_2 xs (T4, E6))
                have t5 := up_t (most := 1114111) (er := 5) (s := (T4, E6)) HB.out t4
                obtain ⟨⟨⟨T5, E7⟩, m⟩, hU5⟩ : ∃ U, upD xs (T4, E6) 1114111 5 = U := ⟨_, rfl⟩
                rw [marks_1, hU5] at HO ⊢
                have e1 : ((1 : Nat) : Int) = 1 := rfl
                rw [e1] at hlt' ⊢
                clear e1
                rw [hU5] at HM t5
                simp only at HO HM t5 ⊢
                obtain ⟨⟨⟨T6, E8⟩, m2⟩, hU6⟩ : ∃ U, upD xs (T5, E7) 1114111 5 = U := ⟨_, rfl⟩
                rw [hU6] at HM
                have HU6 := hide hU6
                clear hU5 hU6
                by_cases hm : m = 0
                · have em : decide (m ≠ 0) = false := by simp [hm]
                  rw [em] at HM ⊢
                  clear em hm
                  have r0 := HO.out.r1.cell 0
                  have r1 := HO.out.r1.cell 1
                  have r2 := HO.out.r1.cell 2
                  have rz0 := HO.out.r1.frozen 0
                  have rz1 := HO.out.r1.frozen 1
                  have rz2 := HO.out.r1.frozen 2
                  have rl := HO.out.r1.lt
                  simp only [List.getElem?_cons_zero, List.getElem?_cons_succ] at r0 r1 r2
                  have k2 := HO.out.r5.cell 2
                  have kz2 := HO.out.r5.frozen 2
                  have kl := HO.out.r5.lt
                  simp only [List.getElem?_cons_zero, List.getElem?_cons_succ] at k2
                  go_wp2_with fail
                  refine (rup a n c xs T5 E7 1114111 5 wr (HI.out.below HO.out.bel) HL.out HB.out hn hc (by rw [← HL.out]; exact t5) (by omega)).mono ?_
                  have hu : upD xs (T5, E7) 1114111 5 = ((T6, E8), m2) := HU6.out
                  unfold upD at hu
                  simp only [Prod.mk.injEq] at hu
                  rw [hu.1.1, hu.1.2, hu.2]
                  rintro e w5 ⟨rfl, hb9⟩
                  clear hu
                  have HO5 := hide (HO.out.later hb9)
                  clear hb9 r0 r1 r2 rz0 rz1 rz2 rl k2 kz2 kl
                  have r0 := HO5.out.r1.cell 0
                  have r1 := HO5.out.r1.cell 1
                  have r2 := HO5.out.r1.cell 2
                  have rz0 := HO5.out.r1.frozen 0
                  have rz1 := HO5.out.r1.frozen 1
                  have rz2 := HO5.out.r1.frozen 2
                  have rl := HO5.out.r1.lt
                  simp only [List.getElem?_cons_zero, List.getElem?_cons_succ] at r0 r1 r2
                  have k2 := HO5.out.r5.cell 2
                  have kz2 := HO5.out.r5.frozen 2
                  have kl := HO5.out.r5.lt
                  simp only [List.getElem?_cons_zero, List.getElem?_cons_succ] at k2
                  go_wp2
                  go_roundw
                  case rel =>
                    refine ⟨2, HK.out.2.1, rfl, ?_, ?_⟩
                    · rw [HM.out]; by_cases h : m2 = 0 <;> simp [h]
                    · rw [HM.out]; exact (HO5.out.putR T6 E8).putC 2 (.int .i64 m2)
                  case measure => have := HK.out; simp [intOf]; omega
                · have em : decide (m ≠ 0) = true := by simp [hm]
                  rw [em] at HM ⊢
                  clear em hm
                  have r0 := HO.out.r1.cell 0
                  have r1 := HO.out.r1.cell 1
                  have r2 := HO.out.r1.cell 2
                  have rz0 := HO.out.r1.frozen 0
                  have rz1 := HO.out.r1.frozen 1
                  have rz2 := HO.out.r1.frozen 2
                  have rl := HO.out.r1.lt
                  simp only [List.getElem?_cons_zero, List.getElem?_cons_succ] at r0 r1 r2
                  have k2 := HO.out.r5.cell 2
                  have kz2 := HO.out.r5.frozen 2
                  have kl := HO.out.r5.lt
                  simp only [List.getElem?_cons_zero, List.getElem?_cons_succ] at k2
                  go_wp2_with fail
                  refine (rup a n c xs T5 E7 1114111 5 wr (HI.out.below HO.out.bel) HL.out HB.out hn hc (by rw [← HL.out]; exact t5) (by omega)).mono ?_
                  have hu : upD xs (T5, E7) 1114111 5 = ((T6, E8), m2) := HU6.out
                  unfold upD at hu
                  simp only [Prod.mk.injEq] at hu
                  rw [hu.1.1, hu.1.2, hu.2]
                  rintro e w5 ⟨rfl, hb9⟩
                  clear hu
                  have HO5 := hide (HO.out.later hb9)
                  clear hb9 r0 r1 r2 rz0 rz1 rz2 rl k2 kz2 kl
                  have r0 := HO5.out.r1.cell 0
                  have r1 := HO5.out.r1.cell 1
                  have r2 := HO5.out.r1.cell 2
                  have rz0 := HO5.out.r1.frozen 0
                  have rz1 := HO5.out.r1.frozen 1
                  have rz2 := HO5.out.r1.frozen 2
                  have rl := HO5.out.r1.lt
                  simp only [List.getElem?_cons_zero, List.getElem?_cons_succ] at r0 r1 r2
                  have k2 := HO5.out.r5.cell 2
                  have kz2 := HO5.out.r5.frozen 2
                  have kl := HO5.out.r5.lt
                  simp only [List.getElem?_cons_zero, List.getElem?_cons_succ] at k2
                  go_wp2
                  go_roundw
                  case rel =>
                    refine ⟨2, HK.out.2.1, rfl, ?_, ?_⟩
                    · rw [HM.out]; by_cases h : m2 = 0 <;> simp [h]
                    · rw [HM.out]; exact (HO5.out.putR T6 E8).putC 2 (.int .i64 m2)
                  case measure => have := HK.out; simp [intOf]; omega
            · obtain rfl : k = K := by omega
              obtain ⟨⟨⟨T9, E9⟩, m1, m2, bok⟩, hM⟩ : ∃ M, marksD xs (T4, E6) (k : Int) = M := ⟨_, rfl⟩
              rw [hM] at HO ⊢
              simp only at HO ⊢
              have HM := hide hM
              clear hM
              go_upto_region 22 with fail
              have a0 := HO.out.r2.cell 0
              have az0 := HO.out.r2.frozen 0
              have a1 := HO.out.r2.cell 1
              have az1 := HO.out.r2.frozen 1
              have a2 := HO.out.r2.cell 2
              have az2 := HO.out.r2.frozen 2
              have b0 := HO.out.r3.cell 0
              have bz0 := HO.out.r3.frozen 0
              have b1 := HO.out.r3.cell 1
              have bz1 := HO.out.r3.frozen 1
              have b2 := HO.out.r3.cell 2
              have bz2 := HO.out.r3.frozen 2
              have b3 := HO.out.r3.cell 3
              have bz3 := HO.out.r3.frozen 3
              have b4 := HO.out.r3.cell 4
              have bz4 := HO.out.r3.frozen 4
              have b5 := HO.out.r3.cell 5
              have bz5 := HO.out.r3.frozen 5
              have b6 := HO.out.r3.cell 6
              have bz6 := HO.out.r3.frozen 6
              have al := HO.out.r5.lt
              simp only [List.getElem?_cons_zero, List.getElem?_cons_succ] at a0 a1 a2 b0 b1 b2 b3 b4 b5 b6
              refine wp_region_chainL (fun w' => Whole w' w.heap.size 52 [.slice a n c, .int .i64 (T9 : Int), .int .i64 E9] ∧ Whole w' (w.heap.size + 1 + 1 + 1) 118 [.int .i64 r, .int .i64 m1, .int .i64 m2, .int .u8 (d : Int), .int .u8 (F : Int), .int .u8 (G : Int), .int .u8 (B : Int)]) 4 [(2, 2), (0, 0), (0, 1), (1, 3), (3, 4), (3, 5)] (by kernel_rfl) (by kernel_rfl) (by kernel_rfl) (fun _ _ _ _ _ h => h) ?_ ?_
              · exact ⟨HO.out.r1.later ((Below.refl _ _).drewN 1), HO.out.r5.later ((Below.refl _ _).drewN 1)⟩
              refine chainL_pure (v := ?_) (by simp only [List.getElem?_toArray, List.getElem?_cons_zero, List.getElem?_cons_succ]; rfl) (by rfl) (fun w => ?_) ?_
              rotate_left
              · go_simp <;> with_reducible rfl
              simp only [Act.put, List.setIfInBounds_toArray, List.set_cons_zero, List.set_cons_succ]
              refine chainL_take (v := ?_) (by simp only [List.getElem?_toArray, List.getElem?_cons_zero]; rfl) (by rfl) (fun w hS => ?_) ?_
              rotate_left
              · have r0 := hS.1.cell 0; have r1 := hS.1.cell 1; have r2 := hS.1.cell 2; simp only [List.getElem?_cons_zero, List.getElem?_cons_succ] at r0 r1 r2; go_simp <;> with_reducible rfl
              simp only [Act.put, List.setIfInBounds_toArray, List.set_cons_zero, List.set_cons_succ]
              refine chainL_take (v := ?_) (by simp only [List.getElem?_toArray, List.getElem?_cons_zero, List.getElem?_cons_succ]; rfl) (by rfl) (fun w hS => ?_) ?_
              rotate_left
              · have k0 := hS.2.cell 0; have k1 := hS.2.cell 1; have k2 := hS.2.cell 2; have k3 := hS.2.cell 3; have k4 := hS.2.cell 4; have k5 := hS.2.cell 5; have k6 := hS.2.cell 6; simp only [List.getElem?_cons_zero, List.getElem?_cons_succ] at k0 k1 k2 k3 k4 k5 k6; go_simp <;> with_reducible rfl
              simp only [Act.put, List.setIfInBounds_toArray, List.set_cons_zero, List.set_cons_succ]
              refine chainL_alone (by simp only [List.getElem?_toArray, List.getElem?_cons_zero, List.getElem?_cons_succ]; rfl) ?_
              intro K hK
              go_wp2
              refine hK.out _ _ (⟨whole_put (whole_put (whole_put (HO.out.r1.later ((Below.refl _ _).drewN 1)) (by omega) _) (by omega) _) (by omega) _, whole_put (whole_put (whole_put (HO.out.r5.later ((Below.refl _ _).drewN 1)) (by omega) _) (by omega) _) (by omega) _⟩) ?_
              clear hK K
              refine chainL_late (by simp only [List.getElem?_toArray, List.getElem?_cons_zero, List.getElem?_cons_succ]; rfl) ?_
              intro K hK
              go_wp2
              refine hK.out _ _ ?_
              clear hK K
              refine chainL_late (by simp only [List.getElem?_toArray, List.getElem?_cons_zero, List.getElem?_cons_succ]; rfl) ?_
              intro K hK
              go_wp2
              refine hK.out _ _ ?_
              clear hK K
              refine chainL_nil ?_
              have HE : Hid (oneD xs (T0, E0) = ((T9, E9), ⟨r, m1, m2, d, ⟨F, G, B⟩⟩, bok)) := one_n HD0.out HU.out HPN.out HU3.out HU4.out HM.out
              go_wp2
              exact ret_on HO.out rfl rfl rfl rfl rfl HE.out
theorem and_low (k : Nat) (hk : k ≤ 1000) : bits .and .u64 (k : Int) 4294967295 = (k : Int) := by
  have := u64_and_nat k 4294967295 (by omega) (by omega)
  rw [show k &&& 4294967295 = k % 4294967296 from Nat.and_two_pow_sub_one_eq_mod k 32, Nat.mod_eq_of_lt (by omega)] at this
  exact this
theorem mul64_one (k : Nat) (hk : k ≤ 1000) (w : World) : Calls Tryd.prog 110 #[.int .u64 1, .int .u64 (k : Int)] w fun e w' => e = .returned (.tuple #[.int .u64 0, .int .u64 (k : Int)]) ∧ w = w' := by
  have a1 : bits .and .u64 1 4294967295 = 1 := and_low 1 (by omega)
  have a0 : bits .and .u64 0 4294967295 = 0 := and_low 0 (by omega)
  have ak := and_low k hk
  have s1 : (k : Int) / 4294967296 = 0 := by omega
  go_enter Tryd.func110, Tryd.ntmps110
  go_wp2
  go_ret2
  exact ⟨rfl, rfl⟩
theorem mul_one (k : Nat) (hk : k ≤ 1000) (w : World) : Calls Tryd.prog 105 #[.int .u64 1, .int .u64 (k : Int)] w fun e w' => e = .returned (.tuple #[.int .u64 0, .int .u64 (k : Int)]) ∧ w = w' := by
  go_enter Tryd.func105, Tryd.ntmps105
  go_wp2_with fail
  refine (mul64_one k hk w).mono ?_
  rintro e w1 ⟨rfl, rfl⟩
  go_wp2
  go_ret2
  exact ⟨rfl, rfl⟩
theorem lay_rep0 (k : Nat) (c : Cel) (hk : 1 ≤ k) : layC (List.replicate k zeroC) 0 ([c].take k) = List.replicate 1 c ++ List.replicate (k - 1) zeroC := by
  obtain ⟨j, rfl⟩ : ∃ j, k = j + 1 := ⟨k - 1, by omega⟩
  unfold layC
  simp
theorem lay_rep (k m mm : Nat) (c : Cel) (hm : m ≤ k) (hmm : Nat.min m (k - m) = mm) : layC (List.replicate m c ++ List.replicate (k - m) zeroC) m ((List.replicate m c).take (k - m)) = List.replicate (m + mm) c ++ List.replicate (k - (m + mm)) zeroC := by
  unfold layC
  have e : (List.replicate m c).take (k - m) = List.replicate mm c := by
    rw [List.take_replicate]
    congr 1
    rw [← hmm]
    exact Nat.min_comm _ _
  have hle : mm ≤ k - m := by rw [← hmm]; exact Nat.min_le_right _ _
  rw [e]
  rw [List.take_append_of_le_length (by simp), List.take_of_length_le (by simp), List.drop_append, List.drop_eq_nil_of_le (by simp), List.nil_append, List.drop_replicate, List.length_replicate, List.length_replicate, ← List.append_assoc, List.replicate_append_replicate]
  congr 2
  omega
theorem rep_cels {w : World} {g k m : Nat} {c : Cel} (h : Whole w g 127 (flatC .i32 (List.replicate m c ++ List.replicate (k - m) zeroC))) : Cels .i32 w (some ⟨g, 0, none⟩) (List.replicate m c) := by
  have := h.cels.take m
  rwa [List.take_append_of_le_length (by simp), List.take_of_length_le (by simp)] at this
theorem repeat_any (A : Option Addr) (c1 : Nat) (c : Cel) (k : Nat) (w : World) (h : Cels .i32 w A [c]) (hk : 1 ≤ k) (hl : k ≤ 1000) : Calls Tryd.prog 94 #[.slice A 1 c1, .int .i64 (k : Int)] w (Lined (List.replicate k c) w) := by
  have HC := hide h
  clear h
  go_enter Tryd.func94, Tryd.ntmps94
  go_wp2_with fail
  refine (mul_one k hl w).mono ?_
  rintro e w0 ⟨rfl, rfl⟩
  go_wp2_with (at_make; refine stopw ?_)
  unfold Hid
  refine wpList_makeL elemL rfl _ _ rfl k rfl rfl (by omega) (by omega) ?_
  intro w1 hw1 hb1
  have HW1 := hide hw1
  have HB1 := hide hb1
  clear hw1 hb1
  obtain ⟨w2, hrun, hw2, ho2⟩ := run_copyL elemL w1 3 w.heap.size 0 127 (List.replicate k zeroC) [c] A k k 1 c1 HW1.out (HC.out.below HB1.out) rfl (by simp)
  rw [Nat.zero_mul, show Nat.min 1 k = 1 from Nat.min_eq_left hk] at hrun
  rw [lay_rep0 k c hk] at hw2
  have HW2 := hide hw2
  have HB2 := hide (ho2.below HB1.out HB1.out.size (Nat.le_refl _))
  clear hw2 ho2
  go_wp2
  go_loopw [8] (fun i wr => ∃ m : Nat, 1 ≤ m ∧ m ≤ k ∧ i = .int .i64 m ∧ Hid (Whole wr w.heap.size 127 (flatC .i32 (List.replicate m c ++ List.replicate (k - m) zeroC))) ∧ Below w.heap.size w wr) (fun i _ => k - (intOf i).toNat)
  case atStart => exact ⟨1, by omega, hk, rfl, HW2, HB2.out⟩
  case round =>
    obtain ⟨m, h1, hm, rfl, HW, hb⟩ := hrel
    by_cases hlt : m < k
    · have hne : ¬ k = m := by omega
      have hsz : (List.replicate m c ++ List.replicate (k - m) zeroC).length = k := by simp; omega
      obtain ⟨w3, hrun, hw3, ho3⟩ := run_copyL elemL wr.drew 3 w.heap.size m 127 (List.replicate m c ++ List.replicate (k - m) zeroC) (List.replicate m c) (some ⟨w.heap.size, 0, none⟩) (k - m) (k - m) m k HW.out.drew (rep_cels HW.out).drew (by simp) (by rw [hsz]; omega)
      obtain ⟨mm, hmm⟩ : ∃ mm, Nat.min m (k - m) = mm := ⟨_, rfl⟩
      have hmm1 : 1 ≤ mm := by rw [← hmm]; exact Nat.le_min.2 ⟨h1, by omega⟩
      have hmm2 : mm ≤ k - m := by rw [← hmm]; exact Nat.min_le_right _ _
      rw [lay_rep k m mm c hm hmm] at hw3
      rw [hmm] at hrun
      have HW3 := hide hw3
      have HB3 := hide (ho3.below (hb.drewN 1) (hb.drewN 1).size (Nat.le_refl _))
      clear hw3 ho3 hmm hsz
      go_wp2
      refine wp_region_chainL (fun _ => True) 9 [(0, 0), (0, 1), (0, 2), (0, 4), (0, 5), (0, 3), (1, 6), (1, 7), (1, 8), (3, 9)] (by kernel_rfl) (by kernel_rfl) (by kernel_rfl) (fun _ _ _ _ _ h => h) ?_ ?_
      · exact trivial
      refine chainL_take (v := ?_) (by simp only [List.getElem?_toArray, List.getElem?_cons_zero]; rfl) (by rfl) (fun w hS => ?_) ?_
      rotate_left
      · go_simp <;> with_reducible rfl
      simp only [Act.put, List.setIfInBounds_toArray, List.set_cons_zero, List.set_cons_succ]
      refine chainL_take (v := ?_) (by simp only [List.getElem?_toArray, List.getElem?_cons_zero, List.getElem?_cons_succ]; rfl) (by rfl) (fun w hS => ?_) ?_
      rotate_left
      · go_simp <;> with_reducible rfl
      simp only [Act.put, List.setIfInBounds_toArray, List.set_cons_zero, List.set_cons_succ]
      refine chainL_take (v := ?_) (by simp only [List.getElem?_toArray, List.getElem?_cons_zero, List.getElem?_cons_succ]; rfl) (by rfl) (fun w hS => ?_) ?_
      rotate_left
      · go_simp <;> with_reducible rfl
      simp only [Act.put, List.setIfInBounds_toArray, List.set_cons_zero, List.set_cons_succ]
      refine chainL_take (v := ?_) (by simp only [List.getElem?_toArray, List.getElem?_cons_zero, List.getElem?_cons_succ]; rfl) (by rfl) (fun w hS => ?_) ?_
      rotate_left
      · go_simp <;> with_reducible rfl
      simp only [Act.put, List.setIfInBounds_toArray, List.set_cons_zero, List.set_cons_succ]
      refine chainL_take (v := ?_) (by simp only [List.getElem?_toArray, List.getElem?_cons_zero, List.getElem?_cons_succ]; rfl) (by rfl) (fun w hS => ?_) ?_
      rotate_left
      · go_simp <;> with_reducible rfl
      simp only [Act.put, List.setIfInBounds_toArray, List.set_cons_zero, List.set_cons_succ]
      refine chainL_take (v := ?_) (by simp only [List.getElem?_toArray, List.getElem?_cons_zero, List.getElem?_cons_succ]; rfl) (by rfl) (fun w hS => ?_) ?_
      rotate_left
      · go_simp <;> with_reducible rfl
      simp only [Act.put, List.setIfInBounds_toArray, List.set_cons_zero, List.set_cons_succ]
      refine chainL_alone (by simp only [List.getElem?_toArray, List.getElem?_cons_zero, List.getElem?_cons_succ]; rfl) ?_
      intro K hK
      go_wp2
      refine hK.out _ _ (trivial) ?_
      clear hK K
      refine chainL_alone (by simp only [List.getElem?_toArray, List.getElem?_cons_zero, List.getElem?_cons_succ]; rfl) ?_
      intro K hK
      go_wp2
      refine hK.out _ _ (trivial) ?_
      clear hK K
      refine chainL_alone (by simp only [List.getElem?_toArray, List.getElem?_cons_zero, List.getElem?_cons_succ]; rfl) ?_
      intro K hK
      go_wp2
      refine hK.out _ _ (trivial) ?_
      clear hK K
      refine chainL_late (by simp only [List.getElem?_toArray, List.getElem?_cons_zero, List.getElem?_cons_succ]; rfl) ?_
      intro K hK
      go_wp2
      refine hK.out _ _ ?_
      clear hK K
      refine chainL_nil ?_
      go_wp2
      go_roundw
      case rel => exact ⟨m + mm, by omega, by omega, by go_num, HW3, HB3.out⟩
      case measure => simp [intOf]; omega
    · obtain rfl : m = k := by omega
      have HE : Hid (Whole wr w.heap.size 127 (flatC .i32 (List.replicate m c))) := by have := HW.out; unfold Hid; rwa [Nat.sub_self, List.replicate_zero, List.append_nil] at this
      go_wp2
      go_ret
      exact ⟨_, by rw [List.length_replicate]; rfl, Nat.le_refl _, HE.out, hb⟩
theorem OwnC.from {e : TypeId} {k : IntKind} {B : Nat} {w w1 wr : World} {v : Value} {cs : List Cel} (h : OwnC e k w1.heap.size w1 wr v cs) (hb : Below B w w1) (hB : B ≤ w1.heap.size) : OwnC e k B w wr v cs := by
  refine ⟨⟨h.own.1, ?_⟩, hb.trans (h.bel.mono hB), Nat.le_trans hB h.le⟩
  rcases h.own.2 with h0 | ⟨g, cap, cur, hv, hg, h1⟩
  · exact .inl h0
  · exact .inr ⟨g, cap, cur, hv, Nat.le_trans hB hg, h1⟩
theorem putTab_len (cs : List Cel) (k : Nat) (c : Cel) : (putTab cs k c).length = cs.length := tab_len _ _
theorem put_len (cs : List Cel) (a : Int) (c : Cel) : (putC cs a c).length = cs.length := by
  unfold putC; split
  · rw [mend_len, putTab_len]
  · rfl
end
end Go.Proofs.YtcbdokocnjoilaaDoor
