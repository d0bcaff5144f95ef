/-
  Contracts: a number of an event (both); the chapter's examples.
  Two pens compared whole, as the walk meets it.
  Contracts: which pens are right (both), flags set or not (the program's), the document's small tables, the program's colors.
  Contracts: the blank pen, a number of rows or columns, where the cursor goes, a mark, a control (the program's emulator).
-/
import Derived.Test.YtkijclgbpbhglaaGreatDoorQa18
import Derived.Test.YtkijclgbpbhglaaGreatDoorQa19
import Derived.Lib.SlBytesConst
import Derived.Test.YtkijclgbpbhglaaGreatDoorChecked
import Derived.Test.YtkijclgbpbhglaaGreatDoorQa1
import Derived.Laws.StructEq
import Derived.Test.YtkijclgbpbhglaaGreatDoorQa7
import Derived.Laws.BitsAll
import Derived.Lib.MinMax
namespace Go.Proofs.YtkijclgbpbhglaaGreatDoor
set_option maxRecDepth 100000
open Go.ChangeShapes Go.WideShapes Go.ChangeAt Go.RowKit
set_option linter.unusedVariables false

set_option maxHeartbeats 1000000 in
theorem pnum_any (kd r at_ none_ : Int) (A : Option Addr) (n c : Nat) (ns : List Int) (w : World) (hi : Ints .i64 w A ns) (hn : ns.length = n) :
    Calls Tryz.prog 184 #[.agg #[.int .i64 kd, .int .i32 r, .slice A n c], .int .i64 at_, .int .i64 none_] w (Num .i64 (numP ns at_ none_) w) := by
  have HB : Hid (Below w.heap.size w (w.alloc (.cells #[.int .i64 kd, .int .i32 r, .slice A n c] 56))) := (Below.refl _ _).alloc (Nat.le_refl _) _
  by_cases h0 : at_ < 0
  · have E : Hid (numP ns at_ none_ = none_) := by unfold Hid numP; rw [if_pos (.inl h0)]
    clear hi hn
    go_enter Tryz.func184, Tryz.ntmps184
    go_wp2
    go_ret
    exact ⟨ret_int (by rw [E.out]), HB.out⟩
  · by_cases h1 : (n : Int) ≤ at_
    · have E : Hid (numP ns at_ none_ = none_) := by unfold Hid numP; rw [if_pos (.inr (.inl (by rw [hn]; exact h1)))]
      have h0' : 0 ≤ at_ := by omega
      clear hi hn h0
      go_enter Tryz.func184, Tryz.ntmps184
      go_wp2
      go_ret
      exact ⟨ret_int (by rw [E.out]), HB.out⟩
    · obtain ⟨j, rfl⟩ : ∃ j : Nat, at_ = (j : Int) := ⟨at_.toNat, by omega⟩
      obtain ⟨b, off, rfl, hc, hb⟩ := hi.at (i := j) (by omega)
      obtain ⟨x, hx⟩ : ∃ x, ns.getD j 0 = x := ⟨_, rfl⟩
      rw [hx] at hc
      have h0' : (0 : Int) ≤ (j : Int) := by omega
      have h1' : (j : Int) < (n : Int) := by omega
      by_cases h2 : x = -1
      · subst h2
        have E : Hid (numP ns (j : Int) none_ = none_) := by unfold Hid numP; rw [if_pos (.inr (.inr (by simpa using hx)))]
        clear hi hn h0 h1 hx
        go_enter Tryz.func184, Tryz.ntmps184
        go_wp2
        go_ret
        exact ⟨ret_int (by rw [E.out]), HB.out⟩
      · have E : Hid (numP ns (j : Int) none_ = x) := by
          unfold Hid numP
          rw [if_neg, Int.toNat_natCast, hx]
          rintro (q | q | q)
          · omega
          · omega
          · rw [Int.toNat_natCast, hx] at q; exact h2 q
        have q2 : (x == -1) = false := by simp [h2]
        clear hi hn h0 h1 hx h2
        go_enter Tryz.func184, Tryz.ntmps184
        go_wp2
        go_ret
        exact ⟨ret_int (by rw [E.out]), HB.out⟩
/-! ### the examples -/
end Go.Proofs.YtkijclgbpbhglaaGreatDoor

namespace Go.Proofs.YtkijclgbpbhglaaGreatDoor
set_option maxRecDepth 100000
open Go.ChangeShapes Go.WideShapes Go.ChangeAt Go.RowKit
set_option linter.unusedVariables false

def pn_eqP (f g b f' g' b' : Int) : Bool := (f == f') && ((g == g') && (b == b'))
def threeFields (P : Program) (t : TypeId) : Prop := (P.fieldsOf t).toList.map (fun f => (f.name == "_", f.type, f.offset)) = [(false, 5, 0), (false, 5, 1), (false, 5, 2)]
theorem fields65 : threeFields Tryz.prog 65 := by unfold threeFields; kernel_rfl
theorem fields38 : threeFields Tryz.prog 38 := by unfold threeFields; kernel_rfl
theorem pn_part5 (xs : Array Value) (i : Nat) (x : Int) (h : xs[i]? = some (.int .u8 x)) (w : World) : (part 5 xs i).run Tryz.prog w = .ok (.int .u8 x) w := by
  unfold part
  simp [go_sem, h]
theorem equal3 (t : TypeId) (ht : Tryz.prog.underlying t = some (.struct (Tryz.prog.fieldsOf t))) (hp : Tryz.prog.stoodInHeld t = false) (h3 : threeFields Tryz.prog t) (d : Nat) (w : World) (f g b f' g' b' : Int) :
    (Op.equalIn (d + 2) t (.agg #[.int .u8 f, .int .u8 g, .int .u8 b]) (.agg #[.int .u8 f', .int .u8 g', .int .u8 b'])).run Tryz.prog w = .ok (pn_eqP f g b f' g' b') w := by
  rw [run_equalIn_agg w (d + 1) t _ _ ht hp]
  unfold threeFields at h3
  generalize (Tryz.prog.fieldsOf t).toList = fs at h3
  have hl : fs.length = 3 := by have := congrArg List.length h3; simpa using this
  match fs, hl with
  | [f0, f1, f2], _ =>
    simp only [List.map_cons, List.map_nil, List.cons.injEq, Prod.mk.injEq, beq_eq_false_iff_ne, ne_eq, and_true] at h3
    obtain ⟨⟨n0, t0, o0⟩, ⟨n1, t1, o1⟩, n2, t2, o2⟩ := h3
    simp only [Op.eqFields, n0, n1, n2, t0, t1, t2, o0, o1, o2, ne_eq, not_false_eq_true, if_true, Sem.run_bind, pn_part5 #[Value.int .u8 f, .int .u8 g, .int .u8 b] 0 f rfl, pn_part5 #[Value.int .u8 f, .int .u8 g, .int .u8 b] 1 g rfl, pn_part5 #[Value.int .u8 f, .int .u8 g, .int .u8 b] 2 b rfl,
      pn_part5 #[Value.int .u8 f', .int .u8 g', .int .u8 b'] 0 f' rfl, pn_part5 #[Value.int .u8 f', .int .u8 g', .int .u8 b'] 1 g' rfl, pn_part5 #[Value.int .u8 f', .int .u8 g', .int .u8 b'] 2 b' rfl, Result.andThen_ok, run_equalIn_int w d 5 .u8 .u8 _ _ Tryz.underlying5, Sem.run_ite, Sem.run_pure]
    unfold pn_eqP
    cases hf : f == f' <;> cases hg : g == g' <;> cases hb : b == b' <;> simp
theorem eql65 (f g b f' g' b' : Int) (w : World) : (binOp .eql 65 (.agg #[.int .u8 f, .int .u8 g, .int .u8 b]) (.agg #[.int .u8 f', .int .u8 g', .int .u8 b'])).run Tryz.prog w = .ok (.bool (pn_eqP f g b f' g' b')) w := by
  rw [run_eql_struct, equal3 65 Tryz.underlying65 Tryz.stoodInHeld65 fields65 9998]; rfl
theorem neq65 (f g b f' g' b' : Int) (w : World) : (binOp .neq 65 (.agg #[.int .u8 f, .int .u8 g, .int .u8 b]) (.agg #[.int .u8 f', .int .u8 g', .int .u8 b'])).run Tryz.prog w = .ok (.bool (!pn_eqP f g b f' g' b')) w := by
  rw [run_neq_struct, equal3 65 Tryz.underlying65 Tryz.stoodInHeld65 fields65 9998]; rfl
theorem eql38 (f g b f' g' b' : Int) (w : World) : (binOp .eql 38 (.agg #[.int .u8 f, .int .u8 g, .int .u8 b]) (.agg #[.int .u8 f', .int .u8 g', .int .u8 b'])).run Tryz.prog w = .ok (.bool (pn_eqP f g b f' g' b')) w := by
  rw [run_eql_struct, equal3 38 Tryz.underlying38 Tryz.stoodInHeld38 fields38 9998]; rfl
theorem neq38 (f g b f' g' b' : Int) (w : World) : (binOp .neq 38 (.agg #[.int .u8 f, .int .u8 g, .int .u8 b]) (.agg #[.int .u8 f', .int .u8 g', .int .u8 b'])).run Tryz.prog w = .ok (.bool (!pn_eqP f g b f' g' b')) w := by
  rw [run_neq_struct, equal3 38 Tryz.underlying38 Tryz.stoodInHeld38 fields38 9998]; rfl
end Go.Proofs.YtkijclgbpbhglaaGreatDoor

namespace Go.Proofs.YtkijclgbpbhglaaGreatDoor
set_option maxRecDepth 100000
open Go.ChangeShapes Go.WideShapes Go.ChangeAt Go.RowKit
set_option linter.unusedVariables false

/-- The call answered with this pen, and left all that was there. -/
def Penned (p : Pn) (w : World) (e : Ending) (w' : World) : Prop := e = .returned (.agg #[.int .u8 (p.f : Int), .int .u8 (p.g : Int), .int .u8 (p.b : Int)]) ∧ Below w.heap.size w w'
/-- A pen's cells. -/
def penL (p : Pn) : List Value := [.int .u8 (p.f : Int), .int .u8 (p.g : Int), .int .u8 (p.b : Int)]

theorem ret_pen {f g b f' g' b' : Int} (h1 : f = f') (h2 : g = g') (h3 : b = b') : Ending.returned (.agg #[.int .u8 f, .int .u8 g, .int .u8 b]) = .returned (.agg #[.int .u8 f', .int .u8 g', .int .u8 b']) := by rw [h1, h2, h3]
theorem pn_bcell {W w1 : World} (hb : Below W.heap.size W w1) : (∀ b o, b < W.heap.size → w1.cell? ⟨b, o, none⟩ = W.cell? ⟨b, o, none⟩) ∧ (∀ b o, b < W.heap.size → w1.frozen? ⟨b, o, none⟩ = W.frozen? ⟨b, o, none⟩) :=
  ⟨fun b o h => hb.cell (p := ⟨b, o, none⟩) h, fun b o h => hb.frozen (p := ⟨b, o, none⟩) h⟩
/-- Two pens' blocks just made: the first one. -/
theorem two_whole (w : World) (t : TypeId) (l : List Value) (o : Obj) : Whole ((w.alloc (.cells l.toArray t)).alloc o) w.heap.size t l := (Whole.new w t l).alloc o
theorem pn_whole_snd (w : World) (o : Obj) (t : TypeId) (l : List Value) : Whole ((w.alloc o).alloc (.cells l.toArray t)) (w.heap.size + 1) t l := by
  have := Whole.new (w.alloc o) t l
  have e : (w.alloc o).heap.size = w.heap.size + 1 := by simp
  rw [e] at this
  exact this
theorem pn_eqP_self (f g b : Int) : pn_eqP f g b f g b = true := by unfold pn_eqP; simp
theorem ret3 {R : Ending → World → Prop} {a : Act} {w : World} {fn : Func} {s : Nat} {q t : Nat} {x y z : Int} (hr : fn.results = #[.cell s t]) (ht : t = 65 ∨ t = 38) (h4 : a.tmps.getD s undef = .pointer (some ⟨q, 0, none⟩)) (hd : a.defers = [])
    (hw : Whole w q t [.int .u8 x, .int .u8 y, .int .u8 z]) (hR : R (.returned (.agg #[.int .u8 x, .int .u8 y, .int .u8 z])) w) : bodyPost Tryz.prog fn R .ret a w := by
  have c0 : w.cell? ⟨q, 0, none⟩ = some (.int .u8 x) := hw.cell 0
  have c1 : w.cell? ⟨q, 1, none⟩ = some (.int .u8 y) := hw.cell 1
  have c2 : w.cell? ⟨q, 2, none⟩ = some (.int .u8 z) := hw.cell 2
  clear hw
  rw [Array.getD_eq_getD_getElem?] at h4
  rcases ht with rfl | rfl
  · exact bodyPost_ret (v := .agg #[.int .u8 x, .int .u8 y, .int .u8 z]) (by simp [results, hr, h4, c0, c1, c2, go_sem]) hd hR
  · exact bodyPost_ret (v := .agg #[.int .u8 x, .int .u8 y, .int .u8 z]) (by simp [results, hr, h4, c0, c1, c2, go_sem]) hd hR
/-- A pen stored over another one. -/
theorem pn_put3 {w : World} {q : Nat} {t : TypeId} {x y z x' y' z' : Value} (hw : Whole w q t [x, y, z]) : Whole (((w.setCell ⟨q, 0, none⟩ x').setCell ⟨q, 1, none⟩ y').setCell ⟨q, 2, none⟩ z') q t [x', y', z'] :=
  ((hw.put 0 x').put 1 y').put 2 z'
set_option maxHeartbeats 400000 in
theorem pn_with_any (f g b m : Nat) (on : Bool) (hf : f < 256) (hm : m < 256) (w : World) :
    Calls Tryz.prog 117 #[.agg #[.int .u8 (f : Int), .int .u8 (g : Int), .int .u8 (b : Int)], .int .u8 (m : Int), .bool on] w (Penned ⟨withN f m on, g, b⟩ w) := by
  have H1 := hide (u8_or_nat f m hf hm)
  have H2 := hide (u8_andNot_nat f m hf hm)
  cases on
  · go_enter Tryz.func117, Tryz.ntmps117
    go_wp2
    refine bodyPost_ret (v := .agg #[.int .u8 (bits .andNot .u8 (f : Int) (m : Int)), .int .u8 (g : Int), .int .u8 (b : Int)]) (by simp [results, Tryz.results117, go_sem]) rfl ⟨ret_pen H2.out rfl rfl, ?_⟩
    exact ((Below.refl _ _).alloc (Nat.le_refl _) _).alloc (by simp) _
  · go_enter Tryz.func117, Tryz.ntmps117
    go_wp2
    refine bodyPost_ret (v := .agg #[.int .u8 (bits .or .u8 (f : Int) (m : Int)), .int .u8 (g : Int), .int .u8 (b : Int)]) (by simp [results, Tryz.results117, go_sem]) rfl ⟨ret_pen H1.out rfl rfl, ?_⟩
    exact ((Below.refl _ _).alloc (Nat.le_refl _) _).alloc (by simp) _

/-! ### the document's tables -/
/-! ### the program's colors -/
set_option maxHeartbeats 400000 in
theorem color_none (w : World) : Calls Tryz.prog 119 #[.int .i64 39] w fun e w' => e = .returned (.int .u8 0) ∧ w = w' := by
  go_enter Tryz.func119, Tryz.ntmps119
  go_wp2
  go_ret
  exact ⟨rfl, rfl⟩
set_option maxHeartbeats 400000 in
theorem color_bright (n : Int) (h1 : 90 ≤ n) (h2 : n ≤ 97) (w : World) : Calls Tryz.prog 119 #[.int .i64 n] w fun e w' => e = .returned (.int .u8 ((n - 81).toNat : Int)) ∧ w = w' := by
  have h3 : (n == 39) = false := by simp; omega
  have H4 : Hid (((n - 81).toNat : Int) = n - 90 + 9) := by unfold Hid; omega
  go_enter Tryz.func119, Tryz.ntmps119
  go_wp2
  go_ret
  exact ⟨ret_int H4.out.symm, rfl⟩
set_option maxHeartbeats 400000 in
theorem color_dark (n : Int) (h1 : 30 ≤ n) (h2 : n ≤ 37) (w : World) : Calls Tryz.prog 119 #[.int .i64 n] w fun e w' => e = .returned (.int .u8 ((n - 29).toNat : Int)) ∧ w = w' := by
  have h3 : (n == 39) = false := by simp; omega
  have H4 : Hid (((n - 29).toNat : Int) = n - 30 + 1) := by unfold Hid; omega
  go_enter Tryz.func119, Tryz.ntmps119
  go_wp2
  go_ret
  exact ⟨ret_int H4.out.symm, rfl⟩
end Go.Proofs.YtkijclgbpbhglaaGreatDoor

namespace Go.Proofs.YtkijclgbpbhglaaGreatDoor
set_option maxRecDepth 100000
open Go.ChangeShapes Go.WideShapes Go.ChangeAt Go.RowKit
set_option linter.unusedVariables false

section
variable {w : World} {b : Bl} {L R C : Nat} {e : Em}
theorem eblank_any (h : Emu w b L R C e) : Calls Tryz.prog 100 #[.pointer (some ⟨b.E, 0, none⟩)] w (Penned (blankP e.pen) w) := by
  have hb := h.later ((Below.refl _ _).alloc (Nat.le_refl _) (.cells #[.int .u8 (0 : Int), .int .u8 (0 : Int), .int .u8 (0 : Int)] 65))
  obtain ⟨c0, c1, c2, c3, c4, c5, lE⟩ := hb.six
  have HP := hide (Whole.new w 65 [.int .u8 (0 : Int), .int .u8 (0 : Int), .int .u8 (0 : Int)])
  have HB : Hid (Below w.heap.size w (w.alloc (.cells #[.int .u8 (0 : Int), .int .u8 (0 : Int), .int .u8 (0 : Int)] 65))) := (Below.refl _ _).alloc (Nat.le_refl _) _
  clear h hb
  go_enter Tryz.func100, Tryz.ntmps100
  go_wp2
  exact ret3 Tryz.results100 (.inl rfl) rfl rfl (Whole.new w 65 [.int .u8 (0 : Int), .int .u8 (0 : Int), .int .u8 (e.pen.b : Int)]) ⟨rfl, (Below.refl _ _).alloc (Nat.le_refl _) _⟩
theorem ord_any (kd r : Int) (A : Option Addr) (n c : Nat) (ns : List Int) (at_ : Int) (w : World) (hi : Ints .i64 w A ns) (hn : ns.length = n) : Calls Tryz.prog 180 #[.agg #[.int .i64 kd, .int .i32 r, .slice A n c], .int .i64 at_] w (Num .i64 (ordN (numP ns at_ 1)) w) := by
  obtain ⟨W0, hW0⟩ : ∃ W0, w.alloc (.cells #[.int .i64 kd, .int .i32 r, .slice A n c] 56) = W0 := ⟨_, rfl⟩
  have HB0 : Hid (Below w.heap.size w W0) := by unfold Hid; rw [← hW0]; exact (Below.refl _ _).alloc (Nat.le_refl _) _
  have HX0 : Hid (Whole W0 w.heap.size 56 [.int .i64 kd, .int .i32 r, .slice A n c]) := by unfold Hid; rw [← hW0]; exact Whole.new w 56 [.int .i64 kd, .int .i32 r, .slice A n c]
  have HW0 := hide hW0
  clear hW0
  obtain ⟨x0, x1, x2, lX⟩ := cells3 HX0.out
  have HI := hide (hi.below HB0.out)
  have HN := hide hn
  clear hi hn
  go_enter Tryz.func180, Tryz.ntmps180
  go_wp2_with fail
  rw [HW0.out]
  refine (pnum_any kd r at_ 1 A n c ns W0 HI.out HN.out).mono ?_
  rintro x k1 ⟨rfl, hb⟩
  have HB1 := hide (HB0.out.trans (hb.mono HB0.out.size))
  clear hb x0 x1 x2
  go_wp2
  go_ret
  exact ⟨rfl, HB1.out⟩
theorem part_any (kd r : Int) (A : Option Addr) (n c : Nat) (ns : List Int) (w : World) (hi : Ints .i64 w A ns) (hn : ns.length = n) : Calls Tryz.prog 182 #[.agg #[.int .i64 kd, .int .i32 r, .slice A n c]] w (Num .i64 (numP ns 0 0) w) := by
  obtain ⟨W0, hW0⟩ : ∃ W0, w.alloc (.cells #[.int .i64 kd, .int .i32 r, .slice A n c] 56) = W0 := ⟨_, rfl⟩
  have HB0 : Hid (Below w.heap.size w W0) := by unfold Hid; rw [← hW0]; exact (Below.refl _ _).alloc (Nat.le_refl _) _
  have HX0 : Hid (Whole W0 w.heap.size 56 [.int .i64 kd, .int .i32 r, .slice A n c]) := by unfold Hid; rw [← hW0]; exact Whole.new w 56 [.int .i64 kd, .int .i32 r, .slice A n c]
  have HW0 := hide hW0
  clear hW0
  obtain ⟨x0, x1, x2, lX⟩ := cells3 HX0.out
  have HI := hide (hi.below HB0.out)
  have HN := hide hn
  clear hi hn
  go_enter Tryz.func182, Tryz.ntmps182
  go_wp2_with fail
  rw [HW0.out]
  refine (pnum_any kd r 0 0 A n c ns W0 HI.out HN.out).mono ?_
  rintro x k1 ⟨rfl, hb⟩
  have HB1 := hide (HB0.out.trans (hb.mono HB0.out.size))
  clear hb x0 x1 x2
  go_wp2
  go_ret
  exact ⟨rfl, HB1.out⟩
set_option maxHeartbeats 1000000 in
theorem walk_any (h : Emu w b L R C e) (rows cols : Int) (hr : -1000 ≤ rows ∧ rows ≤ 1000) (hc : -1000 ≤ cols ∧ cols ≤ 1000) : Calls Tryz.prog 179 #[.pointer (some ⟨b.E, 0, none⟩), .int .i64 rows, .int .i64 cols] w (DoneE b L R C { e with g := moveG e.g ((e.g.row : Int) + rows) ((e.g.col : Int) + cols) C, wrap := false } w) := by
  have hR1 := h.ok.g.r1
  have hR2 := h.ok.g.r2
  have hC1 := h.ok.g.c1
  have hC2 := h.ok.g.c2
  have hrow := h.ok.g.row
  have hcol := h.ok.g.col
  obtain ⟨c0, c1, c2, c3, c4, c5, lE⟩ := h.six
  have HE := hide h
  clear h
  go_enter Tryz.func179, Tryz.ntmps179
  go_wp2_with fail
  refine (step_any HE.out rows cols hr hc).mono ?_
  rintro x k1 ⟨rfl, L1, ha⟩
  have HA := hide ha
  clear ha c0 c1 c2 c3 c4 c5 lE
  obtain ⟨c0, c1, c2, c3, c4, c5, lE⟩ := HA.out.emu.six
  have hz := HA.out.emu.top.frozen
  go_wp2
  refine bodyPost_end (v := .tuple #[]) (by simp [results, Tryz.results179]) rfl ⟨rfl, _, HA.out.trans (HA.out.emu.wrap false)⟩
set_option maxHeartbeats 1000000 in
theorem eup_any (h : Emu w b L R C e) (kd r : Int) (A : Option Addr) (n c : Nat) (ns : List Int) (hi : Ints .i64 w A ns) (hn : ns.length = n) : Calls Tryz.prog 149 #[.pointer (some ⟨b.E, 0, none⟩), .agg #[.int .i64 kd, .int .i32 r, .slice A n c]] w (DoneE b L R C (moveE e C ((e.g.row : Int) - oneN (nAt ns 0 1)) (e.g.col : Int)) w) := by
  obtain ⟨W0, hW0⟩ : ∃ W0, w.alloc (.cells #[.int .i64 kd, .int .i32 r, .slice A n c] 56) = W0 := ⟨_, rfl⟩
  have HB0 : Hid (Below w.heap.size w W0) := by unfold Hid; rw [← hW0]; exact (Below.refl _ _).alloc (Nat.le_refl _) _
  have HX0 : Hid (Whole W0 w.heap.size 56 [.int .i64 kd, .int .i32 r, .slice A n c]) := by unfold Hid; rw [← hW0]; exact Whole.new w 56 [.int .i64 kd, .int .i32 r, .slice A n c]
  have HW0 := hide hW0
  clear hW0
  obtain ⟨x0, x1, x2, lX⟩ := cells3 HX0.out
  have HI := hide (hi.below HB0.out)
  have HN := hide hn
  have HE := hide (h.later HB0.out)
  have HM := hide (move_up h.ok.g (nAt ns 0 1))
  obtain ⟨o, ho⟩ : ∃ o, ordN (numP ns 0 1) = o := ⟨_, rfl⟩
  have hor := ordN_range (numP ns 0 1)
  rw [ho] at hor
  have HO : Hid (o = ordN (nAt ns 0 1)) := by unfold Hid; rw [← ho]; exact congrArg ordN (numP_nAt ns 0 1)
  have HQ := hide ho
  clear hi hn h ho
  go_enter Tryz.func149, Tryz.ntmps149
  go_wp2_with fail
  rw [HW0.out]
  refine (ord_any kd r A n c ns 0 W0 HI.out HN.out).mono ?_
  rintro x k1 ⟨rfl, hb⟩
  rw [HQ.out]
  have HB1 := hide hb
  clear hb x0 x1 x2
  go_wp2_with fail
  refine (walk_any (HE.out.later HB1.out) (-o) 0 (by omega) (by omega)).mono ?_
  rintro x k2 ⟨rfl, L1, ha⟩
  rw [HO.out, HM.out] at ha
  have HA := hide (At.first HB0.out (At.first HB1.out ha))
  clear ha
  go_wp2
  refine bodyPost_end (v := .tuple #[]) (by simp [results, Tryz.results149]) rfl ⟨rfl, _, HA.out⟩
set_option maxHeartbeats 1000000 in
theorem edown_any (h : Emu w b L R C e) (kd r : Int) (A : Option Addr) (n c : Nat) (ns : List Int) (hi : Ints .i64 w A ns) (hn : ns.length = n) : Calls Tryz.prog 150 #[.pointer (some ⟨b.E, 0, none⟩), .agg #[.int .i64 kd, .int .i32 r, .slice A n c]] w (DoneE b L R C (moveE e C ((e.g.row : Int) + oneN (nAt ns 0 1)) (e.g.col : Int)) w) := by
  obtain ⟨W0, hW0⟩ : ∃ W0, w.alloc (.cells #[.int .i64 kd, .int .i32 r, .slice A n c] 56) = W0 := ⟨_, rfl⟩
  have HB0 : Hid (Below w.heap.size w W0) := by unfold Hid; rw [← hW0]; exact (Below.refl _ _).alloc (Nat.le_refl _) _
  have HX0 : Hid (Whole W0 w.heap.size 56 [.int .i64 kd, .int .i32 r, .slice A n c]) := by unfold Hid; rw [← hW0]; exact Whole.new w 56 [.int .i64 kd, .int .i32 r, .slice A n c]
  have HW0 := hide hW0
  clear hW0
  obtain ⟨x0, x1, x2, lX⟩ := cells3 HX0.out
  have HI := hide (hi.below HB0.out)
  have HN := hide hn
  have HE := hide (h.later HB0.out)
  have HM := hide (move_dn h.ok.g (nAt ns 0 1))
  obtain ⟨o, ho⟩ : ∃ o, ordN (numP ns 0 1) = o := ⟨_, rfl⟩
  have hor := ordN_range (numP ns 0 1)
  rw [ho] at hor
  have HO : Hid (o = ordN (nAt ns 0 1)) := by unfold Hid; rw [← ho]; exact congrArg ordN (numP_nAt ns 0 1)
  have HQ := hide ho
  clear hi hn h ho
  go_enter Tryz.func150, Tryz.ntmps150
  go_wp2_with fail
  rw [HW0.out]
  refine (ord_any kd r A n c ns 0 W0 HI.out HN.out).mono ?_
  rintro x k1 ⟨rfl, hb⟩
  rw [HQ.out]
  have HB1 := hide hb
  clear hb x0 x1 x2
  go_wp2_with fail
  refine (walk_any (HE.out.later HB1.out) o 0 (by omega) (by omega)).mono ?_
  rintro x k2 ⟨rfl, L1, ha⟩
  rw [HO.out, HM.out] at ha
  have HA := hide (At.first HB0.out (At.first HB1.out ha))
  clear ha
  go_wp2
  refine bodyPost_end (v := .tuple #[]) (by simp [results, Tryz.results150]) rfl ⟨rfl, _, HA.out⟩
set_option maxHeartbeats 1000000 in
theorem eright_any (h : Emu w b L R C e) (kd r : Int) (A : Option Addr) (n c : Nat) (ns : List Int) (hi : Ints .i64 w A ns) (hn : ns.length = n) : Calls Tryz.prog 151 #[.pointer (some ⟨b.E, 0, none⟩), .agg #[.int .i64 kd, .int .i32 r, .slice A n c]] w (DoneE b L R C (moveE e C (e.g.row : Int) ((e.g.col : Int) + oneN (nAt ns 0 1))) w) := by
  obtain ⟨W0, hW0⟩ : ∃ W0, w.alloc (.cells #[.int .i64 kd, .int .i32 r, .slice A n c] 56) = W0 := ⟨_, rfl⟩
  have HB0 : Hid (Below w.heap.size w W0) := by unfold Hid; rw [← hW0]; exact (Below.refl _ _).alloc (Nat.le_refl _) _
  have HX0 : Hid (Whole W0 w.heap.size 56 [.int .i64 kd, .int .i32 r, .slice A n c]) := by unfold Hid; rw [← hW0]; exact Whole.new w 56 [.int .i64 kd, .int .i32 r, .slice A n c]
  have HW0 := hide hW0
  clear hW0
  obtain ⟨x0, x1, x2, lX⟩ := cells3 HX0.out
  have HI := hide (hi.below HB0.out)
  have HN := hide hn
  have HE := hide (h.later HB0.out)
  have HM := hide (move_rt h.ok.g (nAt ns 0 1))
  obtain ⟨o, ho⟩ : ∃ o, ordN (numP ns 0 1) = o := ⟨_, rfl⟩
  have hor := ordN_range (numP ns 0 1)
  rw [ho] at hor
  have HO : Hid (o = ordN (nAt ns 0 1)) := by unfold Hid; rw [← ho]; exact congrArg ordN (numP_nAt ns 0 1)
  have HQ := hide ho
  clear hi hn h ho
  go_enter Tryz.func151, Tryz.ntmps151
  go_wp2_with fail
  rw [HW0.out]
  refine (ord_any kd r A n c ns 0 W0 HI.out HN.out).mono ?_
  rintro x k1 ⟨rfl, hb⟩
  rw [HQ.out]
  have HB1 := hide hb
  clear hb x0 x1 x2
  go_wp2_with fail
  refine (walk_any (HE.out.later HB1.out) 0 o (by omega) (by omega)).mono ?_
  rintro x k2 ⟨rfl, L1, ha⟩
  rw [HO.out, HM.out] at ha
  have HA := hide (At.first HB0.out (At.first HB1.out ha))
  clear ha
  go_wp2
  refine bodyPost_end (v := .tuple #[]) (by simp [results, Tryz.results151]) rfl ⟨rfl, _, HA.out⟩
set_option maxHeartbeats 1000000 in
theorem eleft_any (h : Emu w b L R C e) (kd r : Int) (A : Option Addr) (n c : Nat) (ns : List Int) (hi : Ints .i64 w A ns) (hn : ns.length = n) : Calls Tryz.prog 152 #[.pointer (some ⟨b.E, 0, none⟩), .agg #[.int .i64 kd, .int .i32 r, .slice A n c]] w (DoneE b L R C (moveE e C (e.g.row : Int) ((e.g.col : Int) - oneN (nAt ns 0 1))) w) := by
  obtain ⟨W0, hW0⟩ : ∃ W0, w.alloc (.cells #[.int .i64 kd, .int .i32 r, .slice A n c] 56) = W0 := ⟨_, rfl⟩
  have HB0 : Hid (Below w.heap.size w W0) := by unfold Hid; rw [← hW0]; exact (Below.refl _ _).alloc (Nat.le_refl _) _
  have HX0 : Hid (Whole W0 w.heap.size 56 [.int .i64 kd, .int .i32 r, .slice A n c]) := by unfold Hid; rw [← hW0]; exact Whole.new w 56 [.int .i64 kd, .int .i32 r, .slice A n c]
  have HW0 := hide hW0
  clear hW0
  obtain ⟨x0, x1, x2, lX⟩ := cells3 HX0.out
  have HI := hide (hi.below HB0.out)
  have HN := hide hn
  have HE := hide (h.later HB0.out)
  have HM := hide (move_lf h.ok.g (nAt ns 0 1))
  obtain ⟨o, ho⟩ : ∃ o, ordN (numP ns 0 1) = o := ⟨_, rfl⟩
  have hor := ordN_range (numP ns 0 1)
  rw [ho] at hor
  have HO : Hid (o = ordN (nAt ns 0 1)) := by unfold Hid; rw [← ho]; exact congrArg ordN (numP_nAt ns 0 1)
  have HQ := hide ho
  clear hi hn h ho
  go_enter Tryz.func152, Tryz.ntmps152
  go_wp2_with fail
  rw [HW0.out]
  refine (ord_any kd r A n c ns 0 W0 HI.out HN.out).mono ?_
  rintro x k1 ⟨rfl, hb⟩
  rw [HQ.out]
  have HB1 := hide hb
  clear hb x0 x1 x2
  go_wp2_with fail
  refine (walk_any (HE.out.later HB1.out) 0 (-o) (by omega) (by omega)).mono ?_
  rintro x k2 ⟨rfl, L1, ha⟩
  rw [HO.out, HM.out] at ha
  have HA := hide (At.first HB0.out (At.first HB1.out ha))
  clear ha
  go_wp2
  refine bodyPost_end (v := .tuple #[]) (by simp [results, Tryz.results152]) rfl ⟨rfl, _, HA.out⟩
set_option maxHeartbeats 2000000 in
theorem eplace_any (h : Emu w b L R C e) (kd r : Int) (A : Option Addr) (n c : Nat) (ns : List Int) (hi : Ints .i64 w A ns) (hn : ns.length = n) : Calls Tryz.prog 153 #[.pointer (some ⟨b.E, 0, none⟩), .agg #[.int .i64 kd, .int .i32 r, .slice A n c]] w (DoneE b L R C (moveE e C (oneN (nAt ns 0 1) - 1) (oneN (nAt ns 1 1) - 1)) w) := by
  have hR1 := h.ok.g.r1
  have hR2 := h.ok.g.r2
  have hC1 := h.ok.g.c1
  have hC2 := h.ok.g.c2
  obtain ⟨W0, hW0⟩ : ∃ W0, w.alloc (.cells #[.int .i64 kd, .int .i32 r, .slice A n c] 56) = W0 := ⟨_, rfl⟩
  have HB0 : Hid (Below w.heap.size w W0) := by unfold Hid; rw [← hW0]; exact (Below.refl _ _).alloc (Nat.le_refl _) _
  have HX0 : Hid (Whole W0 w.heap.size 56 [.int .i64 kd, .int .i32 r, .slice A n c]) := by unfold Hid; rw [← hW0]; exact Whole.new w 56 [.int .i64 kd, .int .i32 r, .slice A n c]
  have HW0 := hide hW0
  clear hW0
  obtain ⟨x0, x1, x2, lX⟩ := cells3 HX0.out
  have HI := hide (hi.below HB0.out)
  have HN := hide hn
  have HE := hide (h.later HB0.out)
  have HM := hide (move_at h.ok.g (nAt ns 0 1) (nAt ns 1 1))
  obtain ⟨o, ho⟩ : ∃ o, ordN (numP ns 0 1) = o := ⟨_, rfl⟩
  have hor := ordN_range (numP ns 0 1)
  rw [ho] at hor
  have HO : Hid (o = ordN (nAt ns 0 1)) := by unfold Hid; rw [← ho]; exact congrArg ordN (numP_nAt ns 0 1)
  have HQ := hide ho
  obtain ⟨o2, ho2⟩ : ∃ o, ordN (numP ns 1 1) = o := ⟨_, rfl⟩
  have hor2 := ordN_range (numP ns 1 1)
  rw [ho2] at hor2
  have HO2 : Hid (o2 = ordN (nAt ns 1 1)) := by unfold Hid; rw [← ho2]; exact congrArg ordN (numP_nAt ns 1 1)
  have HQ2 := hide ho2
  clear hi hn h ho ho2
  go_enter Tryz.func153, Tryz.ntmps153
  go_wp2
  rw [HW0.out]
  refine wp_region_chainL (fun w' => Below W0.heap.size W0 w') 11 [(0, 0), (0, 1), (0, 2), (0, 3), (0, 4), (0, 5), (0, 8), (1, 6), (0, 7), (1, 9), (1, 10), (3, 11)] (by kernel_rfl) (by kernel_rfl) (by kernel_rfl) (fun _ _ _ _ _ h => h) ?_ ?_
  · exact (Below.refl _ _).drewN 1
  refine chainL_take (v := ?_) (by simp only [List.getElem?_toArray, List.getElem?_cons_zero]; rfl) (by rfl) (fun w hS => ?_) ?_
  rotate_left
  · go_simp <;> with_reducible rfl
  simp only [Act.put, List.setIfInBounds_toArray, List.set_cons_zero, List.set_cons_succ]
  refine chainL_take (v := ?_) (by simp only [List.getElem?_toArray, List.getElem?_cons_zero, List.getElem?_cons_succ]; rfl) (by rfl) (fun w hS => ?_) ?_
  rotate_left
  · go_simp <;> with_reducible rfl
  simp only [Act.put, List.setIfInBounds_toArray, List.set_cons_zero, List.set_cons_succ]
  refine chainL_take (v := ?_) (by simp only [List.getElem?_toArray, List.getElem?_cons_zero, List.getElem?_cons_succ]; rfl) (by rfl) (fun w hS => ?_) ?_
  rotate_left
  · go_simp <;> with_reducible rfl
  simp only [Act.put, List.setIfInBounds_toArray, List.set_cons_zero, List.set_cons_succ]
  refine chainL_take (v := ?_) (by simp only [List.getElem?_toArray, List.getElem?_cons_zero, List.getElem?_cons_succ]; rfl) (by rfl) (fun w hS => ?_) ?_
  rotate_left
  · go_simp <;> with_reducible rfl
  simp only [Act.put, List.setIfInBounds_toArray, List.set_cons_zero, List.set_cons_succ]
  refine chainL_take (v := ?_) (by simp only [List.getElem?_toArray, List.getElem?_cons_zero, List.getElem?_cons_succ]; rfl) (by rfl) (fun w hS => ?_) ?_
  rotate_left
  · obtain ⟨y0, y1, y2, -⟩ := cells3 (HX0.out.later hS); obtain ⟨c0, c1, c2, c3, c4, c5, -⟩ := (HE.out.later hS).six; go_simp <;> with_reducible rfl
  simp only [Act.put, List.setIfInBounds_toArray, List.set_cons_zero, List.set_cons_succ]
  refine chainL_take (v := ?_) (by simp only [List.getElem?_toArray, List.getElem?_cons_zero, List.getElem?_cons_succ]; rfl) (by rfl) (fun w hS => ?_) ?_
  rotate_left
  · obtain ⟨y0, y1, y2, -⟩ := cells3 (HX0.out.later hS); obtain ⟨c0, c1, c2, c3, c4, c5, -⟩ := (HE.out.later hS).six; go_simp <;> with_reducible rfl
  simp only [Act.put, List.setIfInBounds_toArray, List.set_cons_zero, List.set_cons_succ]
  refine chainL_take (v := ?_) (by simp only [List.getElem?_toArray, List.getElem?_cons_zero, List.getElem?_cons_succ]; rfl) (by rfl) (fun w hS => ?_) ?_
  rotate_left
  · obtain ⟨y0, y1, y2, -⟩ := cells3 (HX0.out.later hS); obtain ⟨c0, c1, c2, c3, c4, c5, -⟩ := (HE.out.later hS).six; go_simp <;> with_reducible rfl
  simp only [Act.put, List.setIfInBounds_toArray, List.set_cons_zero, List.set_cons_succ]
  refine chainL_alone (by simp only [List.getElem?_toArray, List.getElem?_cons_zero, List.getElem?_cons_succ]; rfl) ?_
  intro K hK
  go_wp2_with fail
  refine (ord_any kd r A n c ns 0 _ (HI.out.drewN 1) HN.out).mono ?_
  rintro x k1 ⟨rfl, hb⟩
  rw [HQ.out]
  have B1 : Below W0.heap.size W0 k1 := ((Below.refl _ _).drewN 1).trans hb
  clear hb
  go_wp2
  refine hK.out _ _ (B1) ?_
  clear hK K
  refine chainL_take (v := ?_) (by simp only [List.getElem?_toArray, List.getElem?_cons_zero, List.getElem?_cons_succ]; rfl) (by rfl) (fun w hS => ?_) ?_
  rotate_left
  · go_simp <;> with_reducible rfl
  simp only [Act.put, List.setIfInBounds_toArray, List.set_cons_zero, List.set_cons_succ]
  refine chainL_alone (by simp only [List.getElem?_toArray, List.getElem?_cons_zero, List.getElem?_cons_succ]; rfl) ?_
  intro K hK
  go_wp2_with fail
  refine (ord_any kd r A n c ns 1 _ (HI.out.below B1) HN.out).mono ?_
  rintro x k2 ⟨rfl, hb⟩
  rw [HQ2.out]
  have B2 : Below W0.heap.size W0 k2 := B1.trans (hb.mono B1.size)
  clear hb
  go_wp2
  refine hK.out _ _ (B2) ?_
  clear hK K
  refine chainL_alone (by simp only [List.getElem?_toArray, List.getElem?_cons_zero, List.getElem?_cons_succ]; rfl) ?_
  intro K hK
  go_wp2
  refine hK.out _ _ (B2) ?_
  clear hK K
  refine chainL_late (by simp only [List.getElem?_toArray, List.getElem?_cons_zero, List.getElem?_cons_succ]; rfl) ?_
  intro K hK
  go_wp2_with fail
  refine (move_any (HE.out.later B2).grd hR1 hR2 hC1 hC2 (o - 1) (o2 - 1)).mono ?_
  rintro x k3 ⟨rfl, hg, hon⟩
  have HA := hide (At.first HB0.out (At.first B2 ((HE.out.later B2).trn0 hg (Trn.of_onlyG hon) (HE.out.ok.g.move _ _))))
  rw [HO.out, HO2.out, HM.out] at HA
  clear hg hon B1 B2
  go_wp2
  refine hK.out _ _ ?_
  clear hK K
  refine chainL_nil ?_
  clear x0 x1 x2 lX
  obtain ⟨c0, c1, c2, c3, c4, c5, lE⟩ := HA.out.emu.six
  have hz := HA.out.emu.top.frozen
  go_wp2
  refine bodyPost_end (v := .tuple #[]) (by simp [results, Tryz.results153]) rfl ⟨rfl, _, HA.out.trans (HA.out.emu.wrap false)⟩
set_option maxHeartbeats 1000000 in
theorem addmark_any (h : Emu w b L R C e) (r : Int) (hr : R32 r) : Calls Tryz.prog 95 #[.pointer (some ⟨b.E, 0, none⟩), .int .i32 r] w (DoneE b L R C { e with g := markG e.g (e.g.row : Int) (if e.wrap = true then (e.g.col : Int) else (e.g.col : Int) - 1) r } w) := by
  have hR1 := h.ok.g.r1
  have hR2 := h.ok.g.r2
  have hC1 := h.ok.g.c1
  have hC2 := h.ok.g.c2
  have hrow := h.ok.g.row
  have hcol := h.ok.g.col
  obtain ⟨c0, c1, c2, c3, c4, c5, lE⟩ := h.six
  have HE := hide h
  have HR := hide hr
  clear h
  cases hw : e.wrap
  · rw [hw] at c5
    have HW := hide hw
    clear hw
    go_enter Tryz.func95, Tryz.ntmps95
    go_wp2_with fail
    refine (col_any HE.out.grd).mono ?_
    rintro x k1 ⟨rfl, rfl⟩
    go_wp2_with fail
    refine (smark_any HE.out ((e.g.col : Int) - 1) r HR.out).mono ?_
    rintro x k1 ⟨rfl, L1, ha⟩
    have HA := hide ha
    clear ha c0 c1 c2 c3 c4 c5
    go_wp2
    refine bodyPost_end (v := .tuple #[]) (by simp [results, Tryz.results95]) rfl ⟨rfl, _, HA.out.eq (by simp [HW.out])⟩
  · rw [hw] at c5
    have HW := hide hw
    clear hw
    go_enter Tryz.func95, Tryz.ntmps95
    go_wp2_with fail
    refine (col_any HE.out.grd).mono ?_
    rintro x k1 ⟨rfl, rfl⟩
    go_wp2_with fail
    refine (smark_any HE.out (e.g.col : Int) r HR.out).mono ?_
    rintro x k1 ⟨rfl, L1, ha⟩
    have HA := hide ha
    clear ha c0 c1 c2 c3 c4 c5
    go_wp2
    refine bodyPost_end (v := .tuple #[]) (by simp [results, Tryz.results95]) rfl ⟨rfl, _, HA.out.eq (by simp [HW.out])⟩
set_option maxHeartbeats 2000000 in
theorem control_any (h : Emu w b L R C e) (r : Int) : Calls Tryz.prog 51 #[.pointer (some ⟨b.E, 0, none⟩), .int .i32 r] w (DoneE b L R C (doE e C ⟨2, r, []⟩) w) := by
  have hR1 := h.ok.g.r1
  have hR2 := h.ok.g.r2
  have hC1 := h.ok.g.c1
  have hC2 := h.ok.g.c2
  have hrow := h.ok.g.row
  have hcol := h.ok.g.col
  obtain ⟨c0, c1, c2, c3, c4, c5, lE⟩ := h.six
  have HE := hide h
  clear h
  by_cases h1 : r = 13
  · subst h1
    go_enter Tryz.func51, Tryz.ntmps51
    go_wp2_with fail
    refine (tocol_any HE.out 0).mono ?_
    rintro x k1 ⟨rfl, L1, ha⟩
    have HA := hide ha
    clear ha
    clear c0 c1 c2 c3 c4 c5 lE
    obtain ⟨c0, c1, c2, c3, c4, c5, lE⟩ := HA.out.emu.six
    have hz := HA.out.emu.top.frozen
    go_wp2
    refine bodyPost_end (v := .tuple #[]) (by simp [results, Tryz.results51]) rfl ⟨rfl, _, (HA.out.trans (HA.out.emu.wrap false)).eq ?_⟩
    rfl
  · have q1 : (r == 13) = false := by simp [h1]
    by_cases h2 : r = 10
    · subst h2
      go_enter Tryz.func51, Tryz.ntmps51
      go_wp2
      refine wp_region_chainL (fun w' => Below w.heap.size w w') 5 [(0, 0), (0, 3), (0, 1), (0, 2), (1, 4), (3, 5)] (by kernel_rfl) (by kernel_rfl) (by kernel_rfl) (fun _ _ _ _ _ h => h) ?_ ?_
      · exact (Below.refl _ _).drewN 1
      refine chainL_take (v := ?_) (by simp only [List.getElem?_toArray, List.getElem?_cons_zero]; rfl) (by rfl) (fun w hS => ?_) ?_
      rotate_left
      · go_simp <;> with_reducible rfl
      simp only [Act.put, List.setIfInBounds_toArray, List.set_cons_zero, List.set_cons_succ]
      refine chainL_take (v := ?_) (by simp only [List.getElem?_toArray, List.getElem?_cons_zero, List.getElem?_cons_succ]; rfl) (by rfl) (fun w hS => ?_) ?_
      rotate_left
      · go_simp <;> with_reducible rfl
      simp only [Act.put, List.setIfInBounds_toArray, List.set_cons_zero, List.set_cons_succ]
      refine chainL_take (v := ?_) (by simp only [List.getElem?_toArray, List.getElem?_cons_zero, List.getElem?_cons_succ]; rfl) (by rfl) (fun w hS => ?_) ?_
      rotate_left
      · go_simp <;> with_reducible rfl
      simp only [Act.put, List.setIfInBounds_toArray, List.set_cons_zero, List.set_cons_succ]
      refine chainL_take (v := ?_) (by simp only [List.getElem?_toArray, List.getElem?_cons_zero, List.getElem?_cons_succ]; rfl) (by rfl) (fun w hS => ?_) ?_
      rotate_left
      · go_simp <;> with_reducible rfl
      simp only [Act.put, List.setIfInBounds_toArray, List.set_cons_zero, List.set_cons_succ]
      refine chainL_alone (by simp only [List.getElem?_toArray, List.getElem?_cons_zero, List.getElem?_cons_succ]; rfl) ?_
      intro K hK
      go_wp2_with fail
      refine (eblank_any (HE.out.later ((Below.refl _ _).drewN 1))).mono ?_
      rintro x k1 ⟨rfl, hb⟩
      have B1 : Below w.heap.size w k1 := ((Below.refl _ _).drewN 1).trans hb
      clear hb
      go_wp2
      refine hK.out _ _ (B1) ?_
      clear hK K
      refine chainL_late (by simp only [List.getElem?_toArray, List.getElem?_cons_zero, List.getElem?_cons_succ]; rfl) ?_
      intro K hK
      go_wp2_with fail
      refine (sfeed_any (HE.out.later B1) (blankP e.pen)).mono ?_
      rintro x k2 ⟨rfl, L1, ha⟩
      have HA := hide (At.first B1 ha)
      clear ha B1
      go_wp2
      refine hK.out _ _ ?_
      clear hK K
      refine chainL_nil ?_
      clear c0 c1 c2 c3 c4 c5 lE
      obtain ⟨c0, c1, c2, c3, c4, c5, lE⟩ := HA.out.emu.six
      have hz := HA.out.emu.top.frozen
      go_wp2
      refine bodyPost_end (v := .tuple #[]) (by simp [results, Tryz.results51]) rfl ⟨rfl, _, (HA.out.trans (HA.out.emu.wrap false)).eq ?_⟩
      rfl
    · have q2 : (r == 10) = false := by simp [h2]
      by_cases h3 : r = 8
      · subst h3
        have HM : Hid (moveG e.g ((e.g.row : Int) + 0) ((e.g.col : Int) + -1) C = moveG e.g (e.g.row : Int) ((e.g.col : Int) - 1) C) := by unfold Hid; rw [Int.add_zero]; rfl
        go_enter Tryz.func51, Tryz.ntmps51
        go_wp2_with fail
        refine (step_any HE.out 0 (-1) (by omega) (by omega)).mono ?_
        rintro x k1 ⟨rfl, L1, ha⟩
        rw [HM.out] at ha
        have HA := hide ha
        clear ha
        clear c0 c1 c2 c3 c4 c5 lE
        obtain ⟨c0, c1, c2, c3, c4, c5, lE⟩ := HA.out.emu.six
        have hz := HA.out.emu.top.frozen
        go_wp2
        refine bodyPost_end (v := .tuple #[]) (by simp [results, Tryz.results51]) rfl ⟨rfl, _, (HA.out.trans (HA.out.emu.wrap false)).eq ?_⟩
        rfl
      · have q3 : (r == 8) = false := by simp [h3]
        have HD : Hid (doE e C ⟨2, r, []⟩ = e) := by unfold Hid doE; simp [h1, h2, h3]
        clear c0 c1 c2 c3 c4 c5
        go_enter Tryz.func51, Tryz.ntmps51
        go_wp2
        exact bodyPost_ret (v := .tuple #[]) (by simp [results, Tryz.results51]) rfl ⟨rfl, _, by rw [HD.out]; exact At.refl HE.out⟩
end
end Go.Proofs.YtkijclgbpbhglaaGreatDoor
