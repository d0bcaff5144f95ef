/-
  Contracts: which pens are right (both), flags set or not (the program's), the document's small tables, the program's colors.
-/
import Derived.Test.YthedfbkkeolkmaaDoorMath
import Derived.Test.YthedfbkkeolkmaaDoorEq
import Derived.Laws.BitsAll
import Derived.Lib.MinMax
namespace Go.Proofs.YthedfbkkeolkmaaDoor
open Go.ChangeShapes Go.WideShapes Go.ChangeAt Go.RowKit
set_option linter.unusedVariables false

/-- The call answered with this pen, and left all that was there. -/
def Penned (p : Pn) (w : World) (e : Ending) (w' : World) : Prop := e = .returned (.agg #[.int .u8 (p.f : Int), .int .u8 (p.g : Int), .int .u8 (p.b : Int)]) ∧ Below w.heap.size w w'
/-- A pen's cells. -/
def penL (p : Pn) : List Value := [.int .u8 (p.f : Int), .int .u8 (p.g : Int), .int .u8 (p.b : Int)]

theorem ret_pen {f g b f' g' b' : Int} (h1 : f = f') (h2 : g = g') (h3 : b = b') : Ending.returned (.agg #[.int .u8 f, .int .u8 g, .int .u8 b]) = .returned (.agg #[.int .u8 f', .int .u8 g', .int .u8 b']) := by rw [h1, h2, h3]
theorem bcell {W w1 : World} (hb : Below W.heap.size W w1) : (∀ b o, b < W.heap.size → w1.cell? ⟨b, o, none⟩ = W.cell? ⟨b, o, none⟩) ∧ (∀ b o, b < W.heap.size → w1.frozen? ⟨b, o, none⟩ = W.frozen? ⟨b, o, none⟩) :=
  ⟨fun b o h => hb.cell (p := ⟨b, o, none⟩) h, fun b o h => hb.frozen (p := ⟨b, o, none⟩) h⟩
/-- Two pens' blocks just made: the first one. -/
theorem two_whole (w : World) (t : TypeId) (l : List Value) (o : Obj) : Whole ((w.alloc (.cells l.toArray t)).alloc o) w.heap.size t l := (Whole.new w t l).alloc o
theorem whole_snd (w : World) (o : Obj) (t : TypeId) (l : List Value) : Whole ((w.alloc o).alloc (.cells l.toArray t)) (w.heap.size + 1) t l := by
  have := Whole.new (w.alloc o) t l
  have e : (w.alloc o).heap.size = w.heap.size + 1 := by simp
  rw [e] at this
  exact this
theorem eqP_self (f g b : Int) : eqP f g b f g b = true := by unfold eqP; simp
theorem eqP_right (f g b : Nat) : eqP (f : Int) (g : Int) (b : Int) (min (f : Int) 31) (min (g : Int) 16) (min (b : Int) 16) = rightN ⟨f, g, b⟩ := by
  unfold eqP rightN
  rw [Bool.eq_iff_iff]
  simp
  omega

theorem ret3 {R : Ending → World → Prop} {a : Act} {w : World} {fn : Func} {s : Nat} {q t : Nat} {x y z : Int} (hr : fn.results = #[.cell s t]) (ht : t = 23 ∨ t = 27) (h4 : a.tmps.getD s undef = .pointer (some ⟨q, 0, none⟩)) (hd : a.defers = [])
    (hw : Whole w q t [.int .u8 x, .int .u8 y, .int .u8 z]) (hR : R (.returned (.agg #[.int .u8 x, .int .u8 y, .int .u8 z])) w) : bodyPost Tryd.prog fn R .ret a w := by
  have c0 : w.cell? ⟨q, 0, none⟩ = some (.int .u8 x) := hw.cell 0
  have c1 : w.cell? ⟨q, 1, none⟩ = some (.int .u8 y) := hw.cell 1
  have c2 : w.cell? ⟨q, 2, none⟩ = some (.int .u8 z) := hw.cell 2
  clear hw
  rw [Array.getD_eq_getD_getElem?] at h4
  rcases ht with rfl | rfl
  · exact bodyPost_ret (v := .agg #[.int .u8 x, .int .u8 y, .int .u8 z]) (by simp [results, hr, h4, c0, c1, c2, go_sem]) hd hR
  · exact bodyPost_ret (v := .agg #[.int .u8 x, .int .u8 y, .int .u8 z]) (by simp [results, hr, h4, c0, c1, c2, go_sem]) hd hR
/-- A pen stored over another one. -/
theorem put3 {w : World} {q : Nat} {t : TypeId} {x y z x' y' z' : Value} (hw : Whole w q t [x, y, z]) : Whole (((w.setCell ⟨q, 0, none⟩ x').setCell ⟨q, 1, none⟩ y').setCell ⟨q, 2, none⟩ z') q t [x', y', z'] :=
  ((hw.put 0 x').put 1 y').put 2 z'
set_option maxHeartbeats 400000 in
theorem right_any (f g b : Nat) (w : World) : Calls Tryd.prog 7 #[.agg #[.int .u8 (f : Int), .int .u8 (g : Int), .int .u8 (b : Int)]] w (Said (rightN ⟨f, g, b⟩) w) := by
  have e1 := eql23
  go_enter Tryd.func7, Tryd.ntmps7
  go_wp2
  go_ret
  exact ⟨ret_bool (eqP_right f g b), (Below.refl _ _).alloc (Nat.le_refl _) _⟩
set_option maxHeartbeats 400000 in
theorem rright_any (f g b : Nat) (w : World) : Calls Tryd.prog 10 #[.agg #[.int .u8 (f : Int), .int .u8 (g : Int), .int .u8 (b : Int)]] w (Said (rightN ⟨f, g, b⟩) w) := by
  by_cases h1 : (f : Int) ≤ 31
  · by_cases h2 : (g : Int) ≤ 16
    · by_cases h3 : (b : Int) ≤ 16
      · have H : Hid (rightN ⟨f, g, b⟩ = true) := by unfold Hid rightN; simp; omega
        go_enter Tryd.func10, Tryd.ntmps10
        go_wp2
        go_ret
        exact ⟨ret_bool H.out.symm, (Below.refl _ _).alloc (Nat.le_refl _) _⟩
      · have H : Hid (rightN ⟨f, g, b⟩ = false) := by unfold Hid rightN; simp; omega
        go_enter Tryd.func10, Tryd.ntmps10
        go_wp2
        go_ret
        exact ⟨ret_bool H.out.symm, (Below.refl _ _).alloc (Nat.le_refl _) _⟩
    · have H : Hid (rightN ⟨f, g, b⟩ = false) := by unfold Hid rightN; simp; omega
      go_enter Tryd.func10, Tryd.ntmps10
      go_wp2
      go_ret
      exact ⟨ret_bool H.out.symm, (Below.refl _ _).alloc (Nat.le_refl _) _⟩
  · have H : Hid (rightN ⟨f, g, b⟩ = false) := by unfold Hid rightN; simp; omega
    go_enter Tryd.func10, Tryd.ntmps10
    go_wp2
    go_ret
    exact ⟨ret_bool H.out.symm, (Below.refl _ _).alloc (Nat.le_refl _) _⟩

set_option maxHeartbeats 400000 in
theorem with_any (f g b m : Nat) (on : Bool) (hf : f < 256) (hm : m < 256) (w : World) :
    Calls Tryd.prog 17 #[.agg #[.int .u8 (f : Int), .int .u8 (g : Int), .int .u8 (b : Int)], .int .u8 (m : Int), .bool on] w (Penned ⟨withN f m on, g, b⟩ w) := by
  have H1 := hide (u8_or_nat f m hf hm)
  have H2 := hide (u8_andNot_nat f m hf hm)
  cases on
  · go_enter Tryd.func17, Tryd.ntmps17
    go_wp2
    refine bodyPost_ret (v := .agg #[.int .u8 (bits .andNot .u8 (f : Int) (m : Int)), .int .u8 (g : Int), .int .u8 (b : Int)]) (by simp [results, Tryd.results17, go_sem]) rfl ⟨ret_pen H2.out rfl rfl, ?_⟩
    exact ((Below.refl _ _).alloc (Nat.le_refl _) _).alloc (by simp) _
  · go_enter Tryd.func17, Tryd.ntmps17
    go_wp2
    refine bodyPost_ret (v := .agg #[.int .u8 (bits .or .u8 (f : Int) (m : Int)), .int .u8 (g : Int), .int .u8 (b : Int)]) (by simp [results, Tryd.results17, go_sem]) rfl ⟨ret_pen H1.out rfl rfl, ?_⟩
    exact ((Below.refl _ _).alloc (Nat.le_refl _) _).alloc (by simp) _

/-! ### the document's tables -/
theorem hasN_eq (x b : Nat) : (((x : Int) / (b : Int) % 2 == 1) = hasN x b) := by
  unfold hasN
  rw [Bool.eq_iff_iff]
  simp
  omega
set_option maxHeartbeats 400000 in
theorem has_any (x b : Nat) (hx : x < 256) (hb : 0 < b) (hb2 : b < 256) (w : World) : Calls Tryd.prog 11 #[.int .u8 (x : Int), .int .u8 (b : Int)] w fun e w' => e = .returned (.bool (hasN x b)) ∧ w = w' := by
  go_enter Tryd.func11, Tryd.ntmps11
  go_wp2
  go_ret
  exact ⟨ret_bool (hasN_eq x b), rfl⟩
theorem tab_i (w : World) (t : TypeId) (k : IntKind) (a b c d e : Int) (i : Nat) (hi : i < 5) :
    (w.alloc (.cells #[.int k a, .int k b, .int k c, .int k d, .int k e] t)).cell? ⟨w.heap.size, i, none⟩ = some (.int k ([a, b, c, d, e].getD i 0)) := by
  rw [World.cell?_alloc_at (w := w) _ t _ i rfl]
  match i, hi with
  | 0, _ => rfl
  | 1, _ => rfl
  | 2, _ => rfl
  | 3, _ => rfl
  | 4, _ => rfl
set_option maxHeartbeats 400000 in
theorem on_any (i : Nat) (hi : i < 5) (w : World) : Calls Tryd.prog 13 #[.int .i64 (i : Int)] w (Num .i64 (onC i) w) := by
  have hc : (w.alloc (.cells #[.int .i64 1, .int .i64 2, .int .i64 4, .int .i64 5, .int .i64 7] 3)).cell? ⟨w.heap.size, i, none⟩ = some (.int .i64 (onC i)) := tab_i w 3 .i64 1 2 4 5 7 i hi
  go_enter Tryd.func13, Tryd.ntmps13
  go_wp2
  go_ret
  exact ⟨rfl, (Below.refl _ _).alloc (Nat.le_refl _) _⟩
set_option maxHeartbeats 400000 in
theorem bit_any (i : Nat) (hi : i < 5) (w : World) : Calls Tryd.prog 12 #[.int .i64 (i : Int)] w (Num .u8 (bitC i : Int) w) := by
  have hc := tab_i w 5 .u8 1 2 4 8 16 i hi
  have he : (([1, 2, 4, 8, 16] : List Int).getD i 0) = (bitC i : Int) := by
    unfold bitC
    match i, hi with
    | 0, _ => rfl
    | 1, _ => rfl
    | 2, _ => rfl
    | 3, _ => rfl
    | 4, _ => rfl
  rw [he] at hc
  clear he
  go_enter Tryd.func12, Tryd.ntmps12
  go_wp2
  go_ret
  exact ⟨rfl, (Below.refl _ _).alloc (Nat.le_refl _) _⟩

/-! ### the program's colors -/
set_option maxHeartbeats 400000 in
theorem color_none (w : World) : Calls Tryd.prog 19 #[.int .i64 39] w fun e w' => e = .returned (.int .u8 0) ∧ w = w' := by
  go_enter Tryd.func19, Tryd.ntmps19
  go_wp2
  go_ret
  exact ⟨rfl, rfl⟩
set_option maxHeartbeats 400000 in
theorem color_bright (n : Int) (h1 : 90 ≤ n) (h2 : n ≤ 97) (w : World) : Calls Tryd.prog 19 #[.int .i64 n] w fun e w' => e = .returned (.int .u8 ((n - 81).toNat : Int)) ∧ w = w' := by
  have h3 : (n == 39) = false := by simp; omega
  have H4 : Hid (((n - 81).toNat : Int) = n - 90 + 9) := by unfold Hid; omega
  go_enter Tryd.func19, Tryd.ntmps19
  go_wp2
  go_ret
  exact ⟨ret_int H4.out.symm, rfl⟩
set_option maxHeartbeats 400000 in
theorem color_dark (n : Int) (h1 : 30 ≤ n) (h2 : n ≤ 37) (w : World) : Calls Tryd.prog 19 #[.int .i64 n] w fun e w' => e = .returned (.int .u8 ((n - 29).toNat : Int)) ∧ w = w' := by
  have h3 : (n == 39) = false := by simp; omega
  have H4 : Hid (((n - 29).toNat : Int) = n - 30 + 1) := by unfold Hid; omega
  go_enter Tryd.func19, Tryd.ntmps19
  go_wp2
  go_ret
  exact ⟨ret_int H4.out.symm, rfl⟩
end Go.Proofs.YthedfbkkeolkmaaDoor
