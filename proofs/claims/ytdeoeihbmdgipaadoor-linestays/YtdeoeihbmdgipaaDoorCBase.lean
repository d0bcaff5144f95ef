/-
  Contracts of the small functions of layer 5: blanks, right halves, another pen, a cell as the document's, which pens are right, which cells bear a rune.
-/
import Derived.Test.YtdeoeihbmdgipaaDoorCMath
import Derived.Test.YtdeoeihbmdgipaaDoorCEq
import Derived.Lib.MinMax
namespace Go.Proofs.YtdeoeihbmdgipaaDoor
open Go.ChangeShapes Go.WideShapes Go.ChangeAt Go.RowKit
set_option linter.unusedVariables false

/-- A cell's seven numbers, the runes of kind k. -/
def cellL (k : IntKind) (c : Cel) : List Value := [.int k c.r, .int k c.m, .int k c.n, .int .u8 (c.w : Int), .int .u8 (c.p.f : Int), .int .u8 (c.p.g : Int), .int .u8 (c.p.b : Int)]
/-- The call answered with this cell, and left all that was there. -/
def Celled (k : IntKind) (c : Cel) (w : World) (e : Ending) (w' : World) : Prop := e = .returned (.agg #[.int k c.r, .int k c.m, .int k c.n, .int .u8 (c.w : Int), .int .u8 (c.p.f : Int), .int .u8 (c.p.g : Int), .int .u8 (c.p.b : Int)]) ∧ Below w.heap.size w w'
/-- .. with this cell and this bool .. -/
def Celled2 (k : IntKind) (x : Cel × Bool) (w : World) (e : Ending) (w' : World) : Prop := e = .returned (.tuple #[.agg #[.int k x.1.r, .int k x.1.m, .int k x.1.n, .int .u8 (x.1.w : Int), .int .u8 (x.1.p.f : Int), .int .u8 (x.1.p.g : Int), .int .u8 (x.1.p.b : Int)], .bool x.2]) ∧ Below w.heap.size w w'

theorem bcell {W w1 : World} (hb : Below W.heap.size W w1) : (∀ b o, b < W.heap.size → w1.cell? ⟨b, o, none⟩ = W.cell? ⟨b, o, none⟩) ∧ (∀ b o, b < W.heap.size → w1.frozen? ⟨b, o, none⟩ = W.frozen? ⟨b, o, none⟩) :=
  ⟨fun b o h => hb.cell (p := ⟨b, o, none⟩) h, fun b o h => hb.frozen (p := ⟨b, o, none⟩) h⟩
theorem whole_snd (w : World) (o : Obj) (t : TypeId) (l : List Value) : Whole ((w.alloc o).alloc (.cells l.toArray t)) (w.heap.size + 1) t l := by
  have := Whole.new (w.alloc o) t l
  have e : (w.alloc o).heap.size = w.heap.size + 1 := by simp
  rw [e] at this
  exact this
theorem put7 {w : World} {q : Nat} {t : TypeId} {y0 y1 y2 y3 y4 y5 y6 : Value} (hw : Whole w q t [y0, y1, y2, y3, y4, y5, y6]) (x0 x1 x2 x3 x4 x5 x6 : Value) : Whole (((((((w.setCell ⟨q, 0, none⟩ x0).setCell ⟨q, 1, none⟩ x1).setCell ⟨q, 2, none⟩ x2).setCell ⟨q, 3, none⟩ x3).setCell ⟨q, 4, none⟩ x4).setCell ⟨q, 5, none⟩ x5).setCell ⟨q, 6, none⟩ x6) q t [x0, x1, x2, x3, x4, x5, x6] :=
  ((((((hw.put 0 x0).put 1 x1).put 2 x2).put 3 x3).put 4 x4).put 5 x5).put 6 x6
theorem below_put7 {B : Nat} {W w : World} {q : Nat} (h : Below B W w) (hq : B ≤ q) (x0 x1 x2 x3 x4 x5 x6 : Value) : Below B W (((((((w.setCell ⟨q, 0, none⟩ x0).setCell ⟨q, 1, none⟩ x1).setCell ⟨q, 2, none⟩ x2).setCell ⟨q, 3, none⟩ x3).setCell ⟨q, 4, none⟩ x4).setCell ⟨q, 5, none⟩ x5).setCell ⟨q, 6, none⟩ x6) := by
  exact ((((((h.setCell (p := ⟨q, 0, none⟩) hq x0).setCell (p := ⟨q, 1, none⟩) hq x1).setCell (p := ⟨q, 2, none⟩) hq x2).setCell (p := ⟨q, 3, none⟩) hq x3).setCell (p := ⟨q, 4, none⟩) hq x4).setCell (p := ⟨q, 5, none⟩) hq x5).setCell (p := ⟨q, 6, none⟩) hq x6
theorem ret7 {R : Ending → World → Prop} {a : Act} {w : World} {fn : Func} {s : Nat} {q t : Nat} {x0 x1 x2 x3 x4 x5 x6 : Value} (hr : fn.results = #[.cell s t]) (ht : t = 27 ∨ t = 38) (h4 : a.tmps.getD s undef = .pointer (some ⟨q, 0, none⟩)) (hd : a.defers = [])
    (hw : Whole w q t [x0, x1, x2, x3, x4, x5, x6]) (hR : R (.returned (.agg #[x0, x1, x2, x3, x4, x5, x6])) w) : bodyPost Tryd.prog fn R .ret a w := by
  have c0 : w.cell? ⟨q, 0, none⟩ = some x0 := hw.cell 0
  have c1 : w.cell? ⟨q, 1, none⟩ = some x1 := hw.cell 1
  have c2 : w.cell? ⟨q, 2, none⟩ = some x2 := hw.cell 2
  have c3 : w.cell? ⟨q, 3, none⟩ = some x3 := hw.cell 3
  have c4 : w.cell? ⟨q, 4, none⟩ = some x4 := hw.cell 4
  have c5 : w.cell? ⟨q, 5, none⟩ = some x5 := hw.cell 5
  have c6 : w.cell? ⟨q, 6, none⟩ = some x6 := hw.cell 6
  clear hw
  rw [Array.getD_eq_getD_getElem?] at h4
  rcases ht with rfl | rfl
  · exact bodyPost_ret (v := .agg #[x0, x1, x2, x3, x4, x5, x6]) (by simp [results, hr, h4, c0, c1, c2, c3, c4, c5, c6, go_sem]) hd hR
  · exact bodyPost_ret (v := .agg #[x0, x1, x2, x3, x4, x5, x6]) (by simp [results, hr, h4, c0, c1, c2, c3, c4, c5, c6, go_sem]) hd hR
theorem ret72 {R : Ending → World → Prop} {a : Act} {w : World} {fn : Func} {s u : Nat} {q t : Nat} {x0 x1 x2 x3 x4 x5 x6 v : Value} (hr : fn.results = #[.cell s t, .tmp u]) (ht : t = 27 ∨ t = 38) (h4 : a.tmps.getD s undef = .pointer (some ⟨q, 0, none⟩)) (h5 : a.tmps.getD u undef = v) (hd : a.defers = [])
    (hw : Whole w q t [x0, x1, x2, x3, x4, x5, x6]) (hR : R (.returned (.tuple #[.agg #[x0, x1, x2, x3, x4, x5, x6], v])) w) : bodyPost Tryd.prog fn R .ret a w := by
  have c0 : w.cell? ⟨q, 0, none⟩ = some x0 := hw.cell 0
  have c1 : w.cell? ⟨q, 1, none⟩ = some x1 := hw.cell 1
  have c2 : w.cell? ⟨q, 2, none⟩ = some x2 := hw.cell 2
  have c3 : w.cell? ⟨q, 3, none⟩ = some x3 := hw.cell 3
  have c4 : w.cell? ⟨q, 4, none⟩ = some x4 := hw.cell 4
  have c5 : w.cell? ⟨q, 5, none⟩ = some x5 := hw.cell 5
  have c6 : w.cell? ⟨q, 6, none⟩ = some x6 := hw.cell 6
  clear hw
  rw [Array.getD_eq_getD_getElem?] at h4 h5
  rcases ht with rfl | rfl
  · exact bodyPost_ret (v := .tuple #[.agg #[x0, x1, x2, x3, x4, x5, x6], v]) (by simp [results, hr, h4, h5, c0, c1, c2, c3, c4, c5, c6, go_sem]) hd hR
  · exact bodyPost_ret (v := .tuple #[.agg #[x0, x1, x2, x3, x4, x5, x6], v]) (by simp [results, hr, h4, h5, c0, c1, c2, c3, c4, c5, c6, go_sem]) hd hR

/-! ### pens -/
theorem eqP_right (f g b : Nat) : eqP (f : Int) (g : Int) (b : Int) (min (f : Int) 31) (min (g : Int) 16) (min (b : Int) 16) = rightN ⟨f, g, b⟩ := by
  unfold eqP rightN
  rw [Bool.eq_iff_iff]
  simp
  omega
set_option maxHeartbeats 400000 in
theorem right_any (f g b : Nat) (w : World) : Calls Tryd.prog 32 #[.agg #[.int .u8 (f : Int), .int .u8 (g : Int), .int .u8 (b : Int)]] w (Said (rightN ⟨f, g, b⟩) w) := by
  have e1 := eqlPen
  go_enter Tryd.func32, Tryd.ntmps32
  go_wp2
  go_ret
  exact ⟨ret_bool (eqP_right f g b), (Below.refl _ _).alloc (Nat.le_refl _) _⟩
set_option maxHeartbeats 400000 in
theorem rright_any (f g b : Nat) (w : World) : Calls Tryd.prog 57 #[.agg #[.int .u8 (f : Int), .int .u8 (g : Int), .int .u8 (b : Int)]] w (Said (rightN ⟨f, g, b⟩) w) := by
  by_cases h1 : (f : Int) ≤ 31
  · by_cases h2 : (g : Int) ≤ 16
    · by_cases h3 : (b : Int) ≤ 16
      · have H : Hid (rightN ⟨f, g, b⟩ = true) := by unfold Hid rightN; simp; omega
        go_enter Tryd.func57, Tryd.ntmps57
        go_wp2
        go_ret
        exact ⟨ret_bool H.out.symm, (Below.refl _ _).alloc (Nat.le_refl _) _⟩
      · have H : Hid (rightN ⟨f, g, b⟩ = false) := by unfold Hid rightN; simp; omega
        go_enter Tryd.func57, Tryd.ntmps57
        go_wp2
        go_ret
        exact ⟨ret_bool H.out.symm, (Below.refl _ _).alloc (Nat.le_refl _) _⟩
    · have H : Hid (rightN ⟨f, g, b⟩ = false) := by unfold Hid rightN; simp; omega
      go_enter Tryd.func57, Tryd.ntmps57
      go_wp2
      go_ret
      exact ⟨ret_bool H.out.symm, (Below.refl _ _).alloc (Nat.le_refl _) _⟩
  · have H : Hid (rightN ⟨f, g, b⟩ = false) := by unfold Hid rightN; simp; omega
    go_enter Tryd.func57, Tryd.ntmps57
    go_wp2
    go_ret
    exact ⟨ret_bool H.out.symm, (Below.refl _ _).alloc (Nat.le_refl _) _⟩

/-! ### cells -/
theorem two_new (w : World) (t u : TypeId) (l m : List Value) : Below w.heap.size w ((w.alloc (.cells l.toArray t)).alloc (.cells m.toArray u)) := ((Below.refl _ _).alloc (Nat.le_refl _) _).alloc (by simp) _
set_option maxHeartbeats 1000000 in
theorem blank_any (f g b : Nat) (w : World) : Calls Tryd.prog 44 #[.agg #[.int .u8 (f : Int), .int .u8 (g : Int), .int .u8 (b : Int)]] w (Celled .i32 (blankC ⟨f, g, b⟩) w) := by
  go_enter Tryd.func44, Tryd.ntmps44
  go_wp2
  exact ret7 Tryd.results44 (.inl rfl) rfl rfl (whole_snd w _ 27 [.int .i32 32, .int .i32 0, .int .i32 0, .int .u8 (1 : Int), .int .u8 (f : Int), .int .u8 (g : Int), .int .u8 (b : Int)]) ⟨rfl, two_new w _ _ _ _⟩
set_option maxHeartbeats 1000000 in
theorem rblank_any (f g b : Nat) (w : World) : Calls Tryd.prog 47 #[.agg #[.int .u8 (f : Int), .int .u8 (g : Int), .int .u8 (b : Int)]] w (Celled .i64 (blankC ⟨f, g, b⟩) w) := by
  go_enter Tryd.func47, Tryd.ntmps47
  go_wp2
  exact ret7 Tryd.results47 (.inr rfl) rfl rfl (whole_snd w _ 38 [.int .i64 32, .int .i64 0, .int .i64 0, .int .u8 (1 : Int), .int .u8 (f : Int), .int .u8 (g : Int), .int .u8 (b : Int)]) ⟨rfl, two_new w _ _ _ _⟩
set_option maxHeartbeats 1000000 in
theorem rest_any (r m n : Int) (d f g b : Nat) (w : World) : Calls Tryd.prog 36 #[.agg #[.int .i32 r, .int .i32 m, .int .i32 n, .int .u8 (d : Int), .int .u8 (f : Int), .int .u8 (g : Int), .int .u8 (b : Int)]] w (Celled .i32 (restC ⟨r, m, n, d, ⟨f, g, b⟩⟩) w) := by
  go_enter Tryd.func36, Tryd.ntmps36
  go_wp2
  exact ret7 Tryd.results36 (.inl rfl) rfl rfl (whole_snd w _ 27 [.int .i32 0, .int .i32 0, .int .i32 0, .int .u8 (0 : Int), .int .u8 (f : Int), .int .u8 (g : Int), .int .u8 (b : Int)]) ⟨rfl, two_new w _ _ _ _⟩
set_option maxHeartbeats 1000000 in
theorem rrest_any (r m n : Int) (d f g b : Nat) (w : World) : Calls Tryd.prog 39 #[.agg #[.int .i64 r, .int .i64 m, .int .i64 n, .int .u8 (d : Int), .int .u8 (f : Int), .int .u8 (g : Int), .int .u8 (b : Int)]] w (Celled .i64 (restC ⟨r, m, n, d, ⟨f, g, b⟩⟩) w) := by
  go_enter Tryd.func39, Tryd.ntmps39
  go_wp2
  exact ret7 Tryd.results39 (.inr rfl) rfl rfl (whole_snd w _ 38 [.int .i64 0, .int .i64 0, .int .i64 0, .int .u8 (0 : Int), .int .u8 (f : Int), .int .u8 (g : Int), .int .u8 (b : Int)]) ⟨rfl, two_new w _ _ _ _⟩
theorem whole_thd (w : World) (o o2 : Obj) (t : TypeId) (l : List Value) : Whole (((w.alloc o).alloc o2).alloc (.cells l.toArray t)) (w.heap.size + 2) t l := by
  have := whole_snd (w.alloc o) o2 t l
  have e : (w.alloc o).heap.size = w.heap.size + 1 := by simp
  rw [e] at this
  exact this
theorem three_new (w : World) (o o2 o3 : Obj) : Below w.heap.size w (((w.alloc o).alloc o2).alloc o3) := (((Below.refl _ _).alloc (Nat.le_refl _) _).alloc (by simp) _).alloc (by simp; omega) _
/-- A number of 32 bits. -/
def R32 (x : Int) : Prop := -2147483648 ≤ x ∧ x ≤ 2147483647
set_option maxHeartbeats 1000000 in
theorem lof_any (r m n : Int) (d f g b : Nat) (hr : R32 r) (hm : R32 m) (hn : R32 n) (w : World) : Calls Tryd.prog 11 #[.agg #[.int .i32 r, .int .i32 m, .int .i32 n, .int .u8 (d : Int), .int .u8 (f : Int), .int .u8 (g : Int), .int .u8 (b : Int)]] w (Celled .i64 ⟨r, m, n, d, ⟨f, g, b⟩⟩ w) := by
  obtain ⟨r1, r2⟩ := hr
  obtain ⟨m1, m2⟩ := hm
  obtain ⟨n1, n2⟩ := hn
  go_enter Tryd.func11, Tryd.ntmps11
  go_wp2
  exact ret7 Tryd.results11 (.inr rfl) rfl rfl (whole_snd w _ 38 [.int .i64 r, .int .i64 m, .int .i64 n, .int .u8 (d : Int), .int .u8 (f : Int), .int .u8 (g : Int), .int .u8 (b : Int)]) ⟨rfl, two_new w _ _ _ _⟩
theorem bears_1 (r m n : Int) (d f g b : Nat) (h : d = 1) : bearsC ⟨r, m, n, d, ⟨f, g, b⟩⟩ = true := by unfold bearsC; simp [h]
theorem bears_2 (r m n : Int) (d f g b : Nat) (h : d = 2) : bearsC ⟨r, m, n, d, ⟨f, g, b⟩⟩ = true := by unfold bearsC; simp [h]
theorem bears_no (r m n : Int) (d f g b : Nat) (h : ¬ d = 1) (h2 : ¬ d = 2) : bearsC ⟨r, m, n, d, ⟨f, g, b⟩⟩ = false := by unfold bearsC; simp [h, h2]
set_option maxHeartbeats 1000000 in
theorem bears_any (r m n : Int) (d f g b : Nat) (w : World) : Calls Tryd.prog 60 #[.agg #[.int .i32 r, .int .i32 m, .int .i32 n, .int .u8 (d : Int), .int .u8 (f : Int), .int .u8 (g : Int), .int .u8 (b : Int)]] w (Said (bearsC ⟨r, m, n, d, ⟨f, g, b⟩⟩) w) := by
  by_cases h1 : d = 1
  · have H := hide (bears_1 r m n d f g b h1)
    have e1 : ((d : Int) == 1) = true := by simp; omega
    clear h1
    go_enter Tryd.func60, Tryd.ntmps60
    go_wp2
    go_ret
    exact ⟨ret_bool H.out.symm, (Below.refl _ _).alloc (Nat.le_refl _) _⟩
  · by_cases h2 : d = 2
    · have H := hide (bears_2 r m n d f g b h2)
      have e1 : ((d : Int) == 1) = false := by simp; omega
      have e2 : ((d : Int) == 2) = true := by simp; omega
      clear h1 h2
      go_enter Tryd.func60, Tryd.ntmps60
      go_wp2
      go_ret
      exact ⟨ret_bool H.out.symm, (Below.refl _ _).alloc (Nat.le_refl _) _⟩
    · have H := hide (bears_no r m n d f g b h1 h2)
      have e1 : ((d : Int) == 1) = false := by simp; omega
      have e2 : ((d : Int) == 2) = false := by simp; omega
      clear h1 h2
      go_enter Tryd.func60, Tryd.ntmps60
      go_wp2
      go_ret
      exact ⟨ret_bool H.out.symm, (Below.refl _ _).alloc (Nat.le_refl _) _⟩
end Go.Proofs.YtdeoeihbmdgipaaDoor
