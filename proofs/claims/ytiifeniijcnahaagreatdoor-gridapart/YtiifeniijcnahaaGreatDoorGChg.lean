/-
  Contracts: a row, changed by what a closure makes of it (the program's).
-/
import Derived.Test.YtiifeniijcnahaaGreatDoorGBase
import Derived.Test.YtiifeniijcnahaaGreatDoorGen
import Derived.Test.YtiifeniijcnahaaGreatDoorLnd
namespace Go.Proofs.YtiifeniijcnahaaGreatDoor
set_option maxRecDepth 100000
open Go.ChangeShapes Go.WideShapes Go.ChangeAt Go.RowKit
set_option linter.unusedVariables false

/-- What a closure makes of a row: a line and whether, wherever it lies; of the length of the row, if so. -/
def Makes (w : World) (C : Nat) (x : List Cel) (ok : Bool) (e : Ending) (w' : World) : Prop := ∃ A n c, e = .returned (.tuple #[.slice A n c, .bool ok]) ∧ Below w.heap.size w w' ∧ (ok = true → n = C ∧ Cels .i32 w' A x ∧ x.length = C)
theorem enter_of {P : Program} {f : FuncId} {fn : Func} (hf : P.funcs[f]? = some fn) (hn : (fn.name == "runtime.NumGoroutine") = false) (hb : fn.body.isNone = false) : ∀ args w, (callFunc f args).run P w = .ok (.enter f args) w := by
  intro args w
  simp only [callFunc, Sem.run_bind]
  simp [hf, go_sem]
  rw [if_neg (by simpa using hn), if_neg (by intro q; simp [q] at hb)]
section
variable {w : World} {G L M R C : Nat} {g : Gd}
set_option maxHeartbeats 2000000 in
theorem change_any (h : Grd w G L M R C g) (f : FuncId) (caps : Array Value) (r : Nat) (hr : r < R) (x : List Cel) (ok : Bool)
    (hfc : ∀ args w, (callFunc f args).run Tryz.prog w = .ok (.enter f args) w) (hf : ∀ (off c : Nat), Cels .i32 w (some ⟨M, off, none⟩) (lAt g.ls r) → ∀ args, args = #[.slice (some ⟨M, off, none⟩) C C] ++ caps → Calls Tryz.prog f args w (Makes w C x ok)) :
    Calls Tryz.prog 63 #[.pointer (some ⟨G, 0, none⟩), .int .i64 (r : Int), .func (.func f) #[] caps] w fun e w' => e = .returned (.bool ok) ∧ Grd w' G L M R C (if ok = true then { g with ls := g.ls.set r x } else g) ∧ Trn G L M w w' := by
  have HG := hide h
  obtain ⟨cap, ps, room, more, h⟩ := h
  obtain ⟨c0, c1, c2, lG, lL, lM⟩ := h.three
  have c3 := h.row hr
  have HF := hide (hf (ps r * C * 7) 0 (h.cels hr) _ rfl)
  have HA := hide h
  clear h hf
  go_enter Tryz.func63, Tryz.ntmps63
  go_wp2_with fail
  refine (has_any HG.out r).mono ?_
  rintro e w1 ⟨rfl, rfl⟩
  rw [hasG_in hr]
  go_wp2_with fail
  refine (HF.out).mono ?_
  rintro e w1 ⟨A, n, c, rfl, hb, hok⟩
  have HA1 := hide (HA.out.later hb)
  have HB := hide hb
  clear c0 c1 c2 c3 lG lL lM hb
  cases ok
  case false =>
    go_wp2
    go_ret
    exact ⟨rfl, .of HA1.out, .of_below HB.out⟩
  case true =>
    obtain ⟨rfl, hc, hx⟩ := hok rfl
    obtain ⟨c0, c1, c2, lG, lL, lM⟩ := HA1.out.three
    have c3 := HA1.out.row hr
    have hm := mul_room (HA1.out.perm r hr) HA1.out.len
    obtain ⟨w2, hrun, hw2, ho2⟩ := run_copyL elemL w1 3 M (ps r * n) 40 room x A n n n c HA1.out.piece hc hx hm
    rw [List.take_of_length_le (Nat.le_of_eq hx)] at hw2
    have HA2 := hide (HA1.out.lay hr x hx ho2 hw2)
    have HT : Hid (Trn G L M w w2) := by unfold Hid; exact (Trn.of_below HB.out).trans (Trn.of_onlyM ho2) (.inl rfl)
    clear hw2 ho2 hm hc hx hok
    go_wp2
    go_ret
    exact ⟨rfl, .of HA2.out, HT.out⟩
theorem change_no (h : Grd w G L M R C g) (f : FuncId) (caps : Array Value) (r : Int) (hr : ¬ hasG R r) :
    Calls Tryz.prog 63 #[.pointer (some ⟨G, 0, none⟩), .int .i64 r, .func (.func f) #[] caps] w fun e w' => e = .returned (.bool false) ∧ w = w' := by
  have HG := hide h
  have HD : Hid (decide (hasG R r) = false) := by unfold Hid; simp [hr]
  clear h hr
  go_enter Tryz.func63, Tryz.ntmps63
  go_wp2_with fail
  refine (has_any HG.out r).mono ?_
  rintro e w1 ⟨rfl, rfl⟩
  rw [HD.out]
  go_wp2
  go_ret
  exact ⟨rfl, rfl⟩
theorem change_nil (f : FuncId) (caps : Array Value) (r : Int) (w : World) :
    Calls Tryz.prog 63 #[.pointer none, .int .i64 r, .func (.func f) #[] caps] w fun e w' => e = .returned (.bool false) ∧ w = w' := by
  go_enter Tryz.func63, Tryz.ntmps63
  go_wp2_with fail
  refine (has_nil r w).mono ?_
  rintro e w1 ⟨rfl, rfl⟩
  go_wp2
  go_ret
  exact ⟨rfl, rfl⟩

/-! ### Put -/
theorem Trn.ofB {G L M : Nat} {w w0 w' : World} (hb : Below w.heap.size w w0) (h : Trn G L M w0 w') : Trn G L M w w' := (Trn.of_below hb).trans h (.inl rfl)
theorem LineN2.makes {w w' : World} {C : Nat} {X : List Cel} {ok : Bool} {e : Ending} (h : LineN2 .i32 C X ok w e w') (hx : X.length = C) : Makes w C X ok e w' := by
  obtain ⟨A, c, rfl, hc, hb⟩ := h
  exact ⟨A, C, c, rfl, hb, fun _ => ⟨rfl, hc, hx⟩⟩
theorem put1_any (off : Nat) (q q2 : Nat) (at_ r m x : Int) (d f y b : Nat) (cs : List Cel) (w : World) (hd : d < 256) (ha : -9223372036854775808 ≤ at_ ∧ at_ < 9223372036854775808) (h : Cels .i32 w (some ⟨M, off, none⟩) cs) (hn : cs.length = C) (hC : C ≤ 1000000) (hS : Spans w)
    (h1 : Whole w q 3 [.int .i64 at_]) (h2 : Whole w q2 40 [.int .i32 r, .int .i32 m, .int .i32 x, .int .u8 (d : Int), .int .u8 (f : Int), .int .u8 (y : Int), .int .u8 (b : Int)]) {X : List Cel} {ok : Bool} (hX : putC cs at_ ⟨r, m, x, d, ⟨f, y, b⟩⟩ = X) (hok : putOk cs at_ ⟨r, m, x, d, ⟨f, y, b⟩⟩ = ok) :
    Calls Tryz.prog 70 #[.slice (some ⟨M, off, none⟩) C C, .pointer (some ⟨q, 0, none⟩), .pointer (some ⟨q2, 0, none⟩)] w (Makes w C X ok) := by
  have HXX := hide hX
  have HOK := hide hok
  have HXL : Hid (X.length = cs.length) := by unfold Hid; rw [← hX, put_len]
  have c0 : w.cell? ⟨q, 0, none⟩ = some (.int .i64 at_) := h1.cell 0
  have lq := h1.lt
  obtain ⟨a0, a1, a2, a3, a4, a5, a6, lq2⟩ := cells7 h2
  have HC := hide h
  have HN := hide hn
  have HS := hide hS
  have HA := hide ha
  clear h hn hS h1 h2 ha hX hok
  go_enter Tryz.func70, Tryz.ntmps70
  go_wp2_with fail
  refine (put_v at_ r m x d f y b HA.out HXX.out HOK.out HC.out HN.out hC hd HS.out).mono ?_
  intro e w1 hl
  have HL := hide (hl.makes (by rw [HXL.out, HN.out]))
  obtain ⟨A, n, rfl, -, -⟩ := hl
  clear c0 a0 a1 a2 a3 a4 a5 a6
  go_wp2
  go_ret2
  exact HL.out
theorem put_chg (g : Gd) (r : Nat) (hr : r < g.ls.length) (c : Int) (x : Cel) : (if putOk (lAt g.ls r) c x = true then { g with ls := g.ls.set r (putC (lAt g.ls r) c x) } else g) = putG g (r : Int) c x := by
  have e : putG g (r : Int) c x = { g with ls := g.ls.set r (putC (lAt g.ls r) c x) } := by unfold putG; rw [if_pos (by unfold hasG; omega), Int.toNat_natCast]
  rw [e]
  split
  · rfl
  · rename_i h
    rw [putL_no _ _ _ (by simpa using h), set_same]
theorem put_ok (g : Gd) (r : Nat) (hr : r < g.ls.length) (c : Int) (x : Cel) : putGOk g (r : Int) c x = putOk (lAt g.ls r) c x := by
  unfold putGOk
  rw [hasG_in hr, Int.toNat_natCast, Bool.true_and]
theorem put_none (g : Gd) (r : Int) (hr : ¬ hasG g.ls.length r) (c : Int) (x : Cel) : putG g r c x = g ∧ putGOk g r c x = false := by
  unfold putG putGOk
  rw [if_neg hr]
  simp [hr]
set_option maxHeartbeats 2000000 in
theorem gput_any (h : Grd w G L M R C g) (hC : C ≤ 512) (hS : Spans w) (R0 at_ r m x : Int) (d f y b : Nat) (hd : d < 256) (ha : -9223372036854775808 ≤ at_ ∧ at_ < 9223372036854775808) :
    Calls Tryz.prog 33 #[.pointer (some ⟨G, 0, none⟩), .int .i64 R0, .int .i64 at_, .agg #[.int .i32 r, .int .i32 m, .int .i32 x, .int .u8 (d : Int), .int .u8 (f : Int), .int .u8 (y : Int), .int .u8 (b : Int)]] w fun e w' => e = .returned (.bool (putGOk g R0 at_ ⟨r, m, x, d, ⟨f, y, b⟩⟩)) ∧ Grd w' G L M R C (putG g R0 at_ ⟨r, m, x, d, ⟨f, y, b⟩⟩) ∧ Trn G L M w w' := by
  obtain ⟨W0, hW0⟩ : ∃ W0, (w.alloc (.cells #[.int .i64 at_] 3)).alloc (.cells #[.int .i32 r, .int .i32 m, .int .i32 x, .int .u8 (d : Int), .int .u8 (f : Int), .int .u8 (y : Int), .int .u8 (b : Int)] 40) = W0 := ⟨_, rfl⟩
  have HB : Hid (Below w.heap.size w W0) := by unfold Hid; rw [← hW0]; exact two_new w _ _ [.int .i64 at_] [.int .i32 r, .int .i32 m, .int .i32 x, .int .u8 (d : Int), .int .u8 (f : Int), .int .u8 (y : Int), .int .u8 (b : Int)]
  have HS : Hid (Spans W0) := by unfold Hid; rw [← hW0]; exact (hS.alloc _).alloc _
  have HX0 : Hid (Whole W0 (w.heap.size) 3 [.int .i64 at_]) := by unfold Hid; rw [← hW0]; exact ((Whole.new w 3 [.int .i64 at_]).alloc _)
  have HX1 : Hid (Whole W0 (w.heap.size + 1) 40 [.int .i32 r, .int .i32 m, .int .i32 x, .int .u8 (d : Int), .int .u8 (f : Int), .int .u8 (y : Int), .int .u8 (b : Int)]) := by unfold Hid; rw [← hW0]; exact (whole_snd w _ 40 [.int .i32 r, .int .i32 m, .int .i32 x, .int .u8 (d : Int), .int .u8 (f : Int), .int .u8 (y : Int), .int .u8 (b : Int)])
  have HG := hide (h.later HB.out)
  have HLen := hide h.glen
  have HW0 := hide hW0
  clear hW0 h hS
  by_cases hr : hasG R R0
  · obtain ⟨q, hq⟩ : ∃ q : Nat, R0 = (q : Int) := ⟨R0.toNat, by unfold hasG at hr; omega⟩
    subst hq
    have hqR : q < R := by unfold hasG at hr; omega
    have HE := hide (put_chg g q (by rw [HLen.out]; exact hqR) at_ ⟨r, m, x, d, ⟨f, y, b⟩⟩)
    have HO := hide (put_ok g q (by rw [HLen.out]; exact hqR) at_ ⟨r, m, x, d, ⟨f, y, b⟩⟩)
    go_enter Tryz.func33, Tryz.ntmps33
    go_wp2_with fail
    rw [HW0.out]
    obtain ⟨cap, ps, room, more, hat⟩ := HG.out
    refine (change_any HG.out 70 _ q hqR (putC (lAt g.ls q) at_ ⟨r, m, x, d, ⟨f, y, b⟩⟩) (putOk (lAt g.ls q) at_ ⟨r, m, x, d, ⟨f, y, b⟩⟩) (enter_of Tryz.func70 (by kernel_rfl) (by kernel_rfl)) (fun off c9 hc args hargs => ?_)).mono ?_
    · have ha2 : args = #[.slice (some ⟨M, off, none⟩) C C, .pointer (some ⟨w.heap.size, 0, none⟩), .pointer (some ⟨w.heap.size + 1, 0, none⟩)] := by simpa using hargs
      subst ha2
      exact put1_any off _ _ at_ r m x d f y b _ W0 hd ha hc (hat.lenAt hqR) (by omega) HS.out HX0.out HX1.out rfl rfl
    rintro e w1 ⟨rfl, hg, ht⟩
    rw [HE.out] at hg
    have HG1 := hide hg
    have HT1 := hide (Trn.ofB HB.out ht)
    clear hg ht hat
    rw [← HO.out]
    go_wp2
    go_ret
    exact ⟨rfl, HG1.out, HT1.out⟩
  · have HE := hide (put_none g R0 (by rw [HLen.out]; exact hr) at_ ⟨r, m, x, d, ⟨f, y, b⟩⟩)
    go_enter Tryz.func33, Tryz.ntmps33
    go_wp2_with fail
    rw [HW0.out]
    refine (change_no HG.out 70 _ R0 hr).mono ?_
    rintro e w1 ⟨rfl, rfl⟩
    go_wp2
    go_ret
    exact ⟨by rw [HE.out.2]; rfl, by rw [HE.out.1]; exact HG.out, Trn.of_below HB.out⟩
theorem gput_nil (R0 at_ r m x : Int) (d f y b : Nat) (hd : d < 256) (ha : -9223372036854775808 ≤ at_ ∧ at_ < 9223372036854775808) (w : World) :
    Calls Tryz.prog 33 #[.pointer none, .int .i64 R0, .int .i64 at_, .agg #[.int .i32 r, .int .i32 m, .int .i32 x, .int .u8 (d : Int), .int .u8 (f : Int), .int .u8 (y : Int), .int .u8 (b : Int)]] w fun e w' => e = .returned (.bool false) ∧ Below w.heap.size w w' := by
  obtain ⟨W0, hW0⟩ : ∃ W0, (w.alloc (.cells #[.int .i64 at_] 3)).alloc (.cells #[.int .i32 r, .int .i32 m, .int .i32 x, .int .u8 (d : Int), .int .u8 (f : Int), .int .u8 (y : Int), .int .u8 (b : Int)] 40) = W0 := ⟨_, rfl⟩
  have HB : Hid (Below w.heap.size w W0) := by unfold Hid; rw [← hW0]; exact two_new w _ _ [.int .i64 at_] [.int .i32 r, .int .i32 m, .int .i32 x, .int .u8 (d : Int), .int .u8 (f : Int), .int .u8 (y : Int), .int .u8 (b : Int)]
  have HW0 := hide hW0
  clear hW0
  go_enter Tryz.func33, Tryz.ntmps33
  go_wp2_with fail
  rw [HW0.out]
  refine (change_nil 70 _ R0 W0).mono ?_
  rintro e w1 ⟨rfl, rfl⟩
  go_wp2
  go_ret
  exact ⟨rfl, HB.out⟩

/-! ### Mark -/
theorem mark1_any (off : Nat) (q q2 : Nat) (at_ y : Int) (cs : List Cel) (w : World) (h : Cels .i32 w (some ⟨M, off, none⟩) cs) (hn : cs.length = C) (hC : C ≤ 1000000) (hS : Spans w)
    (h1 : Whole w q 3 [.int .i64 at_]) (h2 : Whole w q2 21 [.int .i32 y]) {X : List Cel} {ok : Bool} (hX : lmarkC cs at_ y = (X, ok)) :
    Calls Tryz.prog 78 #[.slice (some ⟨M, off, none⟩) C C, .pointer (some ⟨q, 0, none⟩), .pointer (some ⟨q2, 0, none⟩)] w (Makes w C X ok) := by
  have HXX := hide hX
  have HXL : Hid (X.length = cs.length) := by unfold Hid; rw [← lmark_len cs at_ y, hX]
  have c0 : w.cell? ⟨q, 0, none⟩ = some (.int .i64 at_) := h1.cell 0
  have lq := h1.lt
  have a0 : w.cell? ⟨q2, 0, none⟩ = some (.int .i32 y) := h2.cell 0
  have lq2 := h2.lt
  have HC := hide h
  have HN := hide hn
  have HS := hide hS
  clear h hn hS h1 h2 hX
  go_enter Tryz.func78, Tryz.ntmps78
  go_wp2_with fail
  refine (lmark_v at_ y HXX.out HC.out HN.out hC HS.out).mono ?_
  intro e w1 hl
  have HL := hide (hl.makes (by rw [HXL.out, HN.out]))
  obtain ⟨A, n, rfl, -, -⟩ := hl
  clear c0 a0
  go_wp2
  go_ret2
  exact HL.out
theorem mark_chg (g : Gd) (r : Nat) (hr : r < g.ls.length) (c y : Int) : (if (lmarkC (lAt g.ls r) c y).2 = true then { g with ls := g.ls.set r (lmarkC (lAt g.ls r) c y).1 } else g) = markG g (r : Int) c y := by
  have e : markG g (r : Int) c y = { g with ls := g.ls.set r (lmarkC (lAt g.ls r) c y).1 } := by unfold markG; rw [if_pos (by unfold hasG; omega), Int.toNat_natCast]
  rw [e]
  split
  · rfl
  · rename_i h
    rw [markL_no _ _ _ (by simpa using h), set_same]
theorem mark_ok (g : Gd) (r : Nat) (hr : r < g.ls.length) (c y : Int) : markGOk g (r : Int) c y = (lmarkC (lAt g.ls r) c y).2 := by
  unfold markGOk
  rw [hasG_in hr, Int.toNat_natCast, Bool.true_and]
theorem mark_none (g : Gd) (r : Int) (hr : ¬ hasG g.ls.length r) (c y : Int) : markG g r c y = g ∧ markGOk g r c y = false := by
  unfold markG markGOk
  rw [if_neg hr]
  simp [hr]
set_option maxHeartbeats 2000000 in
theorem gmark_any (h : Grd w G L M R C g) (hC : C ≤ 512) (hS : Spans w) (R0 at_ y : Int) :
    Calls Tryz.prog 39 #[.pointer (some ⟨G, 0, none⟩), .int .i64 R0, .int .i64 at_, .int .i32 y] w fun e w' => e = .returned (.bool (markGOk g R0 at_ y)) ∧ Grd w' G L M R C (markG g R0 at_ y) ∧ Trn G L M w w' := by
  obtain ⟨W0, hW0⟩ : ∃ W0, (w.alloc (.cells #[.int .i64 at_] 3)).alloc (.cells #[.int .i32 y] 21) = W0 := ⟨_, rfl⟩
  have HB : Hid (Below w.heap.size w W0) := by unfold Hid; rw [← hW0]; exact two_new w _ _ [.int .i64 at_] [.int .i32 y]
  have HS : Hid (Spans W0) := by unfold Hid; rw [← hW0]; exact (hS.alloc _).alloc _
  have HX0 : Hid (Whole W0 (w.heap.size) 3 [.int .i64 at_]) := by unfold Hid; rw [← hW0]; exact ((Whole.new w 3 [.int .i64 at_]).alloc _)
  have HX1 : Hid (Whole W0 (w.heap.size + 1) 21 [.int .i32 y]) := by unfold Hid; rw [← hW0]; exact (whole_snd w _ 21 [.int .i32 y])
  have HG := hide (h.later HB.out)
  have HLen := hide h.glen
  have HW0 := hide hW0
  clear hW0 h hS
  by_cases hr : hasG R R0
  · obtain ⟨q, hq⟩ : ∃ q : Nat, R0 = (q : Int) := ⟨R0.toNat, by unfold hasG at hr; omega⟩
    subst hq
    have hqR : q < R := by unfold hasG at hr; omega
    have HE := hide (mark_chg g q (by rw [HLen.out]; exact hqR) at_ y)
    have HO := hide (mark_ok g q (by rw [HLen.out]; exact hqR) at_ y)
    go_enter Tryz.func39, Tryz.ntmps39
    go_wp2_with fail
    rw [HW0.out]
    obtain ⟨cap, ps, room, more, hat⟩ := HG.out
    refine (change_any HG.out 78 _ q hqR ((lmarkC (lAt g.ls q) at_ y).1) ((lmarkC (lAt g.ls q) at_ y).2) (enter_of Tryz.func78 (by kernel_rfl) (by kernel_rfl)) (fun off c9 hc args hargs => ?_)).mono ?_
    · have ha2 : args = #[.slice (some ⟨M, off, none⟩) C C, .pointer (some ⟨w.heap.size, 0, none⟩), .pointer (some ⟨w.heap.size + 1, 0, none⟩)] := by simpa using hargs
      subst ha2
      exact mark1_any off _ _ at_ y _ W0 hc (hat.lenAt hqR) (by omega) HS.out HX0.out HX1.out rfl
    rintro e w1 ⟨rfl, hg, ht⟩
    rw [HE.out] at hg
    have HG1 := hide hg
    have HT1 := hide (Trn.ofB HB.out ht)
    clear hg ht hat
    rw [← HO.out]
    go_wp2
    go_ret
    exact ⟨rfl, HG1.out, HT1.out⟩
  · have HE := hide (mark_none g R0 (by rw [HLen.out]; exact hr) at_ y)
    go_enter Tryz.func39, Tryz.ntmps39
    go_wp2_with fail
    rw [HW0.out]
    refine (change_no HG.out 78 _ R0 hr).mono ?_
    rintro e w1 ⟨rfl, rfl⟩
    go_wp2
    go_ret
    exact ⟨by rw [HE.out.2]; rfl, by rw [HE.out.1]; exact HG.out, Trn.of_below HB.out⟩
theorem gmark_nil (R0 at_ y : Int) (w : World) :
    Calls Tryz.prog 39 #[.pointer none, .int .i64 R0, .int .i64 at_, .int .i32 y] w fun e w' => e = .returned (.bool false) ∧ Below w.heap.size w w' := by
  obtain ⟨W0, hW0⟩ : ∃ W0, (w.alloc (.cells #[.int .i64 at_] 3)).alloc (.cells #[.int .i32 y] 21) = W0 := ⟨_, rfl⟩
  have HB : Hid (Below w.heap.size w W0) := by unfold Hid; rw [← hW0]; exact two_new w _ _ [.int .i64 at_] [.int .i32 y]
  have HW0 := hide hW0
  clear hW0
  go_enter Tryz.func39, Tryz.ntmps39
  go_wp2_with fail
  rw [HW0.out]
  refine (change_nil 78 _ R0 W0).mono ?_
  rintro e w1 ⟨rfl, rfl⟩
  go_wp2
  go_ret
  exact ⟨rfl, HB.out⟩

/-! ### Erase -/
set_option maxHeartbeats 2000000 in
theorem erase1_any (off : Nat) (q q2 q3 : Nat) (x y : Int) (f g b : Nat) (cs : List Cel) (w : World) (h : Cels .i32 w (some ⟨M, off, none⟩) cs) (hn : cs.length = C) (hC : C ≤ 1000000)
    (h1 : Whole w q 3 [.int .i64 x]) (h2 : Whole w q2 3 [.int .i64 y]) (h3 : Whole w q3 38 [.int .u8 (f : Int), .int .u8 (g : Int), .int .u8 (b : Int)]) {X : List Cel} {ok : Bool} (hX : eraseC cs x y ⟨f, g, b⟩ = X) (hok : rightN ⟨f, g, b⟩ = ok) :
    Calls Tryz.prog 64 #[.slice (some ⟨M, off, none⟩) C C, .pointer (some ⟨q, 0, none⟩), .pointer (some ⟨q2, 0, none⟩), .pointer (some ⟨q3, 0, none⟩)] w (Makes w C X ok) := by
  have HX := hide hX
  have HXL : Hid (X.length = cs.length) := by unfold Hid; rw [← hX, erase_len]
  have HC := hide h
  have HN := hide hn
  have H1 := hide h1
  have H2 := hide h2
  have H3 := hide h3
  have HOK := hide hok
  clear h hn h1 h2 h3 hX hok
  go_enter Tryz.func64, Tryz.ntmps64
  go_wp2
  refine wp_region_chainH (fun w' => Below w.heap.size w w') [(true, 0), (true, 1), (true, 2), (true, 3), (true, 5), (false, 4), (false, 6), (false, 7), (false, 8)] (by kernel_rfl) (by kernel_rfl) (by kernel_rfl) (fun _ _ _ _ _ h => h) ?_ ?_
  · exact (Below.refl _ _).drewN 1
  refine chainH_take (v := ?_) (by simp only [List.getElem?_toArray, List.getElem?_cons_zero]; rfl) (by rfl) (fun w hS => ?_) ?_
  rotate_left
  · go_simp <;> with_reducible rfl
  simp only [Act.put, List.setIfInBounds_toArray, List.set_cons_zero, List.set_cons_succ]
  refine chainH_take (v := ?_) (by simp only [List.getElem?_toArray, List.getElem?_cons_zero, List.getElem?_cons_succ]; rfl) (by rfl) (fun w hS => ?_) ?_
  rotate_left
  · have f0 := (H1.out.later hS).cell 0; go_simp <;> with_reducible rfl
  simp only [Act.put, List.setIfInBounds_toArray, List.set_cons_zero, List.set_cons_succ]
  refine chainH_take (v := ?_) (by simp only [List.getElem?_toArray, List.getElem?_cons_zero, List.getElem?_cons_succ]; rfl) (by rfl) (fun w hS => ?_) ?_
  rotate_left
  · have f0 := (H2.out.later hS).cell 0; go_simp <;> with_reducible rfl
  simp only [Act.put, List.setIfInBounds_toArray, List.set_cons_zero, List.set_cons_succ]
  refine chainH_take (v := ?_) (by simp only [List.getElem?_toArray, List.getElem?_cons_zero, List.getElem?_cons_succ]; rfl) (by rfl) (fun w hS => ?_) ?_
  rotate_left
  · obtain ⟨a0, a1, a2, -⟩ := cells3 (H3.out.later hS); go_simp <;> with_reducible rfl
  simp only [Act.put, List.setIfInBounds_toArray, List.set_cons_zero, List.set_cons_succ]
  refine chainH_take (v := ?_) (by simp only [List.getElem?_toArray, List.getElem?_cons_zero, List.getElem?_cons_succ]; rfl) (by rfl) (fun w hS => ?_) ?_
  rotate_left
  · obtain ⟨a0, a1, a2, -⟩ := cells3 (H3.out.later hS); go_simp <;> with_reducible rfl
  simp only [Act.put, List.setIfInBounds_toArray, List.set_cons_zero, List.set_cons_succ]
  refine chainH_alone (by simp only [List.getElem?_toArray, List.getElem?_cons_zero, List.getElem?_cons_succ]; rfl) ?_
  intro K hK
  go_wp2_with fail
  refine (erase_v x y f g b HX.out HC.out.drew HN.out hC).mono ?_
  rintro e k1 ⟨A1, c1, rfl, hc1, hb⟩
  have Bk1 : Below w.heap.size w k1 := ((Below.refl _ _).drewN 1).trans hb
  have HC1 := hide hc1
  clear hb hc1
  go_wp2
  refine hK.out _ _ Bk1 ?_
  clear hK K
  refine chainH_alone (by simp only [List.getElem?_toArray, List.getElem?_cons_zero, List.getElem?_cons_succ]; rfl) ?_
  intro K hK
  go_wp2_with fail
  refine (right_any f g b k1).mono ?_
  rintro e k2 ⟨rfl, hb⟩
  have Bk2 : Below w.heap.size w k2 := Bk1.trans (hb.mono Bk1.size)
  have HC2 := hide (HC1.out.below hb)
  clear hb
  go_wp2
  refine hK.out _ _ Bk2 ?_
  clear hK K
  refine chainH_alone (by simp only [List.getElem?_toArray, List.getElem?_cons_zero, List.getElem?_cons_succ]; rfl) ?_
  intro K hK
  go_wp2
  refine hK.out _ _ Bk2 ?_
  clear hK K
  refine chainH_alone (by simp only [List.getElem?_toArray, List.getElem?_cons_zero, List.getElem?_cons_succ]; rfl) ?_
  intro K hK
  go_wp2
  refine hK.out _ _ Bk2 ?_
  clear hK K
  refine chainH_nil ?_
  clear Bk1
  have HB := hide Bk2
  clear Bk2
  rw [HOK.out]
  go_wp2
  go_ret2
  exact ⟨A1, C, c1, rfl, HB.out, fun _ => ⟨rfl, HC2.out, by rw [HXL.out, HN.out]⟩⟩
theorem erase_chg (g : Gd) (r : Nat) (hr : r < g.ls.length) (x y : Int) (p : Pn) : (if rightN p = true then { g with ls := g.ls.set r (eraseC (lAt g.ls r) x y p) } else g) = eraseG g (r : Int) x y p := by
  have hh : hasG g.ls.length (r : Int) := by unfold hasG; omega
  unfold eraseG
  by_cases hp : rightN p = true
  · rw [if_pos hp, if_pos ⟨hh, hp⟩, Int.toNat_natCast]
  · rw [if_neg hp, if_neg (fun q => hp q.2)]
theorem erase_none (g : Gd) (r : Int) (hr : ¬ hasG g.ls.length r) (x y : Int) (p : Pn) : eraseG g r x y p = g := by
  unfold eraseG
  rw [if_neg (fun q => hr q.1)]
set_option maxHeartbeats 2000000 in
theorem gerase_any (h : Grd w G L M R C g) (hC : C ≤ 512) (hS : Spans w) (R0 x y : Int) (f y2 b : Nat) :
    Calls Tryz.prog 27 #[.pointer (some ⟨G, 0, none⟩), .int .i64 R0, .int .i64 x, .int .i64 y, .agg #[.int .u8 (f : Int), .int .u8 (y2 : Int), .int .u8 (b : Int)]] w fun e w' => e = .returned (.tuple #[]) ∧ Grd w' G L M R C (eraseG g R0 x y ⟨f, y2, b⟩) ∧ Trn G L M w w' := by
  obtain ⟨W0, hW0⟩ : ∃ W0, ((w.alloc (.cells #[.int .i64 x] 3)).alloc (.cells #[.int .i64 y] 3)).alloc (.cells #[.int .u8 (f : Int), .int .u8 (y2 : Int), .int .u8 (b : Int)] 38) = W0 := ⟨_, rfl⟩
  have HB : Hid (Below w.heap.size w W0) := by unfold Hid; rw [← hW0]; exact three_new w _ _ _
  have HS : Hid (Spans W0) := by unfold Hid; rw [← hW0]; exact ((hS.alloc _).alloc _).alloc _
  have HX0 : Hid (Whole W0 (w.heap.size) 3 [.int .i64 x]) := by unfold Hid; rw [← hW0]; exact (((Whole.new w 3 [.int .i64 x]).alloc _).alloc _)
  have HX1 : Hid (Whole W0 (w.heap.size + 1) 3 [.int .i64 y]) := by unfold Hid; rw [← hW0]; exact ((whole_snd w _ 3 [.int .i64 y]).alloc _)
  have HX2 : Hid (Whole W0 (w.heap.size + 2) 38 [.int .u8 (f : Int), .int .u8 (y2 : Int), .int .u8 (b : Int)]) := by unfold Hid; rw [← hW0]; exact (whole_thd w _ _ 38 [.int .u8 (f : Int), .int .u8 (y2 : Int), .int .u8 (b : Int)])
  have HG := hide (h.later HB.out)
  have HLen := hide h.glen
  have HW0 := hide hW0
  clear hW0 h hS
  by_cases hr : hasG R R0
  · obtain ⟨q, hq⟩ : ∃ q : Nat, R0 = (q : Int) := ⟨R0.toNat, by unfold hasG at hr; omega⟩
    subst hq
    have hqR : q < R := by unfold hasG at hr; omega
    have HE := hide (erase_chg g q (by rw [HLen.out]; exact hqR) x y ⟨f, y2, b⟩)
    go_enter Tryz.func27, Tryz.ntmps27
    go_wp2_with fail
    rw [HW0.out]
    obtain ⟨cap, ps, room, more, hat⟩ := HG.out
    refine (change_any HG.out 64 _ q hqR (eraseC (lAt g.ls q) x y ⟨f, y2, b⟩) (rightN ⟨f, y2, b⟩) (enter_of Tryz.func64 (by kernel_rfl) (by kernel_rfl)) (fun off c9 hc args hargs => ?_)).mono ?_
    · have ha2 : args = #[.slice (some ⟨M, off, none⟩) C C, .pointer (some ⟨w.heap.size, 0, none⟩), .pointer (some ⟨w.heap.size + 1, 0, none⟩), .pointer (some ⟨w.heap.size + 2, 0, none⟩)] := by simpa using hargs
      subst ha2
      exact erase1_any off _ _ _ x y f y2 b _ W0 hc (hat.lenAt hqR) (by omega) HX0.out HX1.out HX2.out rfl rfl
    rintro e w1 ⟨rfl, hg, ht⟩
    rw [HE.out] at hg
    have HG1 := hide hg
    have HT1 := hide (Trn.ofB HB.out ht)
    clear hg ht hat
    go_wp2
    exact bodyPost_end (v := .tuple #[]) (by simp [results, Tryz.results27]) rfl ⟨rfl, HG1.out, HT1.out⟩
  · have HE := hide (erase_none g R0 (by rw [HLen.out]; exact hr) x y ⟨f, y2, b⟩)
    go_enter Tryz.func27, Tryz.ntmps27
    go_wp2_with fail
    rw [HW0.out]
    refine (change_no HG.out 64 _ R0 hr).mono ?_
    rintro e w1 ⟨rfl, rfl⟩
    go_wp2
    exact bodyPost_end (v := .tuple #[]) (by simp [results, Tryz.results27]) rfl ⟨rfl, by rw [HE.out]; exact HG.out, Trn.of_below HB.out⟩
theorem gerase_nil (R0 x y : Int) (f y2 b : Nat) (w : World) :
    Calls Tryz.prog 27 #[.pointer none, .int .i64 R0, .int .i64 x, .int .i64 y, .agg #[.int .u8 (f : Int), .int .u8 (y2 : Int), .int .u8 (b : Int)]] w fun e w' => e = .returned (.tuple #[]) ∧ Below w.heap.size w w' := by
  obtain ⟨W0, hW0⟩ : ∃ W0, ((w.alloc (.cells #[.int .i64 x] 3)).alloc (.cells #[.int .i64 y] 3)).alloc (.cells #[.int .u8 (f : Int), .int .u8 (y2 : Int), .int .u8 (b : Int)] 38) = W0 := ⟨_, rfl⟩
  have HB : Hid (Below w.heap.size w W0) := by unfold Hid; rw [← hW0]; exact three_new w _ _ _
  have HW0 := hide hW0
  clear hW0
  go_enter Tryz.func27, Tryz.ntmps27
  go_wp2_with fail
  rw [HW0.out]
  refine (change_nil 64 _ R0 W0).mono ?_
  rintro e w1 ⟨rfl, rfl⟩
  go_wp2
  exact bodyPost_end (v := .tuple #[]) (by simp [results, Tryz.results27]) rfl ⟨rfl, HB.out⟩

/-! ### Lay -/
set_option maxHeartbeats 2000000 in
theorem lay1_any (off : Nat) (q : Nat) (A : Option Addr) (n c : Nat) (zs : List Cel) (w : World) (hz : Cels .i32 w A zs) (hn : zs.length = n) (hl : n ≤ 1000000) (hlb : LB zs) (hS : Spans w)
    (h1 : Whole w q 41 [.slice A n c]) {ok : Bool} (hok : (decide (zs.length = C) && rightL zs) = ok) :
    Calls Tryz.prog 82 #[.slice (some ⟨M, off, none⟩) C C, .pointer (some ⟨q, 0, none⟩)] w (Makes w C zs ok) := by
  have HZ := hide hz
  have HN := hide hn
  have H1 := hide h1
  have HLB := hide hlb
  have HS := hide hS
  have f1 : w.cell? ⟨q, 0, none⟩ = some (.slice A n c) := h1.cell 0
  have lq := h1.lt
  by_cases hnC : n = C
  · have e1 : ((n : Int) == (C : Int)) = true := by simp [hnC]
    have HOK : Hid (rightL zs = ok) := by unfold Hid; rw [← hok, hn, hnC]; simp
    have HNC := hide hnC
    clear hz hn h1 hlb hS hok hnC
    go_enter Tryz.func82, Tryz.ntmps82
    go_wp2
    refine wp_region_chainH (fun w' => Below w.heap.size w w') [(true, 3), (true, 4), (true, 0), (false, 1), (false, 2), (false, 5), (false, 6), (false, 7), (false, 8), (true, 10), (false, 9), (false, 11)] (by kernel_rfl) (by kernel_rfl) (by kernel_rfl) (fun _ _ _ _ _ h => h) ?_ ?_
    · exact (Below.refl _ _).drewN 1
    refine chainH_take (v := ?_) (by simp only [List.getElem?_toArray, List.getElem?_cons_zero, List.getElem?_cons_succ]; rfl) (by rfl) (fun w hS => ?_) ?_
    rotate_left
    · go_simp <;> with_reducible rfl
    simp only [Act.put, List.setIfInBounds_toArray, List.set_cons_zero, List.set_cons_succ]
    refine chainH_take (v := ?_) (by simp only [List.getElem?_toArray, List.getElem?_cons_zero, List.getElem?_cons_succ]; rfl) (by rfl) (fun w hS => ?_) ?_
    rotate_left
    · go_simp <;> with_reducible rfl
    simp only [Act.put, List.setIfInBounds_toArray, List.set_cons_zero, List.set_cons_succ]
    refine chainH_take (v := ?_) (by simp only [List.getElem?_toArray, List.getElem?_cons_zero]; rfl) (by rfl) (fun w hS => ?_) ?_
    rotate_left
    · have f0 := (H1.out.later hS).cell 0; go_simp <;> with_reducible rfl
    simp only [Act.put, List.setIfInBounds_toArray, List.set_cons_zero, List.set_cons_succ]
    refine chainH_alone (by simp only [List.getElem?_toArray, List.getElem?_cons_zero, List.getElem?_cons_succ]; rfl) ?_
    intro K hK
    go_wp2
    refine hK.out _ _ ((Below.refl _ _).drewN 1) ?_
    clear hK K
    refine chainH_alone (by simp only [List.getElem?_toArray, List.getElem?_cons_zero, List.getElem?_cons_succ]; rfl) ?_
    intro K hK
    go_wp2
    refine hK.out _ _ ((Below.refl _ _).drewN 1) ?_
    clear hK K
    refine chainH_alone (by simp only [List.getElem?_toArray, List.getElem?_cons_zero, List.getElem?_cons_succ]; rfl) ?_
    intro K hK
    go_wp2
    refine hK.out _ _ ((Below.refl _ _).drewN 1) ?_
    clear hK K
    refine chainH_alone (by simp only [List.getElem?_toArray, List.getElem?_cons_zero, List.getElem?_cons_succ]; rfl) ?_
    intro K hK
    go_wp2
    refine hK.out _ _ ((Below.refl _ _).drewN 1) ?_
    clear hK K
    refine chainH_alone (by simp only [List.getElem?_toArray, List.getElem?_cons_zero, List.getElem?_cons_succ]; rfl) ?_
    intro K hK
    go_wp2
    refine hK.out _ _ ((Below.refl _ _).drewN 1) ?_
    clear hK K
    refine chainH_alone (by simp only [List.getElem?_toArray, List.getElem?_cons_zero, List.getElem?_cons_succ]; rfl) ?_
    intro K hK
    go_wp2_with fail
    refine (lright_any A n c zs _ HZ.out.drew HN.out hl HLB.out HS.out.drew).mono ?_
    rintro e k1 ⟨rfl, hb⟩
    have Bk1 : Below w.heap.size w k1 := ((Below.refl _ _).drewN 1).trans hb
    clear hb
    go_wp2
    refine hK.out _ _ Bk1 ?_
    clear hK K
    refine chainH_take (v := ?_) (by simp only [List.getElem?_toArray, List.getElem?_cons_zero, List.getElem?_cons_succ]; rfl) (by rfl) (fun w hS => ?_) ?_
    rotate_left
    · go_simp <;> with_reducible rfl
    simp only [Act.put, List.setIfInBounds_toArray, List.set_cons_zero, List.set_cons_succ]
    refine chainH_alone (by simp only [List.getElem?_toArray, List.getElem?_cons_zero, List.getElem?_cons_succ]; rfl) ?_
    intro K hK
    go_wp2
    refine hK.out _ _ Bk1 ?_
    clear hK K
    refine chainH_alone (by simp only [List.getElem?_toArray, List.getElem?_cons_zero, List.getElem?_cons_succ]; rfl) ?_
    intro K hK
    go_wp2
    refine hK.out _ _ Bk1 ?_
    clear hK K
    refine chainH_nil ?_
    have HB := hide Bk1
    clear Bk1
    rw [HOK.out]
    go_wp2
    go_ret2
    exact ⟨A, n, c, rfl, HB.out, fun _ => ⟨HNC.out, HZ.out.below HB.out, by rw [HN.out, HNC.out]⟩⟩
  · have e1 : ((n : Int) == (C : Int)) = false := by simp; omega
    have HOK : Hid (ok = false) := by unfold Hid; rw [← hok, hn]; simp [hnC]
    clear hz hn h1 hlb hS hok hnC
    go_enter Tryz.func82, Tryz.ntmps82
    go_wp2
    refine wp_region_chainH (fun w' => Below w.heap.size w w') [(true, 3), (true, 4), (true, 0), (false, 1), (false, 2), (false, 5), (false, 6), (false, 7), (false, 8), (true, 10), (false, 9), (false, 11)] (by kernel_rfl) (by kernel_rfl) (by kernel_rfl) (fun _ _ _ _ _ h => h) ?_ ?_
    · exact (Below.refl _ _).drewN 1
    refine chainH_take (v := ?_) (by simp only [List.getElem?_toArray, List.getElem?_cons_zero, List.getElem?_cons_succ]; rfl) (by rfl) (fun w hS => ?_) ?_
    rotate_left
    · go_simp <;> with_reducible rfl
    simp only [Act.put, List.setIfInBounds_toArray, List.set_cons_zero, List.set_cons_succ]
    refine chainH_take (v := ?_) (by simp only [List.getElem?_toArray, List.getElem?_cons_zero, List.getElem?_cons_succ]; rfl) (by rfl) (fun w hS => ?_) ?_
    rotate_left
    · go_simp <;> with_reducible rfl
    simp only [Act.put, List.setIfInBounds_toArray, List.set_cons_zero, List.set_cons_succ]
    refine chainH_take (v := ?_) (by simp only [List.getElem?_toArray, List.getElem?_cons_zero]; rfl) (by rfl) (fun w hS => ?_) ?_
    rotate_left
    · have f0 := (H1.out.later hS).cell 0; go_simp <;> with_reducible rfl
    simp only [Act.put, List.setIfInBounds_toArray, List.set_cons_zero, List.set_cons_succ]
    refine chainH_alone (by simp only [List.getElem?_toArray, List.getElem?_cons_zero, List.getElem?_cons_succ]; rfl) ?_
    intro K hK
    go_wp2
    refine hK.out _ _ ((Below.refl _ _).drewN 1) ?_
    clear hK K
    refine chainH_alone (by simp only [List.getElem?_toArray, List.getElem?_cons_zero, List.getElem?_cons_succ]; rfl) ?_
    intro K hK
    go_wp2
    refine hK.out _ _ ((Below.refl _ _).drewN 1) ?_
    clear hK K
    refine chainH_alone (by simp only [List.getElem?_toArray, List.getElem?_cons_zero, List.getElem?_cons_succ]; rfl) ?_
    intro K hK
    go_wp2
    refine hK.out _ _ ((Below.refl _ _).drewN 1) ?_
    clear hK K
    refine chainH_alone (by simp only [List.getElem?_toArray, List.getElem?_cons_zero, List.getElem?_cons_succ]; rfl) ?_
    intro K hK
    go_wp2
    refine hK.out _ _ ((Below.refl _ _).drewN 1) ?_
    clear hK K
    refine chainH_pass (by simp only [List.getElem?_toArray, List.getElem?_cons_zero, List.getElem?_cons_succ]; rfl) (by rfl) ((Below.refl _ _).drewN 1) ?_
    simp only [Act.put, List.setIfInBounds_toArray, List.set_cons_zero, List.set_cons_succ]
    refine chainH_pass (by simp only [List.getElem?_toArray, List.getElem?_cons_zero, List.getElem?_cons_succ]; rfl) (by rfl) ((Below.refl _ _).drewN 1) ?_
    simp only [Act.put, List.setIfInBounds_toArray, List.set_cons_zero, List.set_cons_succ]
    refine chainH_take (v := ?_) (by simp only [List.getElem?_toArray, List.getElem?_cons_zero, List.getElem?_cons_succ]; rfl) (by rfl) (fun w hS => ?_) ?_
    rotate_left
    · go_simp <;> with_reducible rfl
    simp only [Act.put, List.setIfInBounds_toArray, List.set_cons_zero, List.set_cons_succ]
    refine chainH_alone (by simp only [List.getElem?_toArray, List.getElem?_cons_zero, List.getElem?_cons_succ]; rfl) ?_
    intro K hK
    go_wp2
    refine hK.out _ _ ((Below.refl _ _).drewN 1) ?_
    clear hK K
    refine chainH_alone (by simp only [List.getElem?_toArray, List.getElem?_cons_zero, List.getElem?_cons_succ]; rfl) ?_
    intro K hK
    go_wp2
    refine hK.out _ _ ((Below.refl _ _).drewN 1) ?_
    clear hK K
    refine chainH_nil ?_
    go_wp2
    go_ret2
    exact ⟨A, n, c, by rw [HOK.out]; rfl, (Below.refl _ _).drewN 1, fun q => by rw [HOK.out] at q; cases q⟩
theorem lay_chg (g : Gd) (r : Nat) (hr : r < g.ls.length) (zs : List Cel) (C : Nat) : (if (decide (zs.length = C) && rightL zs) = true then { g with ls := g.ls.set r zs } else g) = layG g (r : Int) zs C := by
  unfold layG layOk
  rw [hasG_in hr, Bool.true_and, Int.toNat_natCast]
theorem lay_ok (g : Gd) (r : Nat) (hr : r < g.ls.length) (zs : List Cel) (C : Nat) : layOk g (r : Int) zs C = (decide (zs.length = C) && rightL zs) := by
  unfold layOk
  rw [hasG_in hr, Bool.true_and]
theorem lay_none (g : Gd) (r : Int) (hr : ¬ hasG g.ls.length r) (zs : List Cel) (C : Nat) : layG g r zs C = g ∧ layOk g r zs C = false := by
  have : layOk g r zs C = false := by unfold layOk; simp [hr]
  unfold layG
  rw [this]
  exact ⟨rfl, rfl⟩
set_option maxHeartbeats 2000000 in
theorem glay_any (h : Grd w G L M R C g) (hC : C ≤ 512) (hS : Spans w) (R0 : Int) (A : Option Addr) (n c : Nat) (zs : List Cel) (hz : Cels .i32 w A zs) (hn : zs.length = n) (hl : n ≤ 1000000) (hlb : LB zs) :
    Calls Tryz.prog 44 #[.pointer (some ⟨G, 0, none⟩), .int .i64 R0, .slice A n c] w fun e w' => e = .returned (.bool (layOk g R0 zs C)) ∧ Grd w' G L M R C (layG g R0 zs C) ∧ Trn G L M w w' := by
  obtain ⟨W0, hW0⟩ : ∃ W0, w.alloc (.cells #[.slice A n c] 41) = W0 := ⟨_, rfl⟩
  have HB : Hid (Below w.heap.size w W0) := by unfold Hid; rw [← hW0]; exact (Below.refl _ _).alloc (Nat.le_refl _) _
  have HS : Hid (Spans W0) := by unfold Hid; rw [← hW0]; exact hS.alloc _
  have HX0 : Hid (Whole W0 (w.heap.size) 41 [.slice A n c]) := by unfold Hid; rw [← hW0]; exact (Whole.new w 41 [.slice A n c])
  have HG := hide (h.later HB.out)
  have HLen := hide h.glen
  have HW0 := hide hW0
  clear hW0 h hS
  by_cases hr : hasG R R0
  · obtain ⟨q, hq⟩ : ∃ q : Nat, R0 = (q : Int) := ⟨R0.toNat, by unfold hasG at hr; omega⟩
    subst hq
    have hqR : q < R := by unfold hasG at hr; omega
    have HE := hide (lay_chg g q (by rw [HLen.out]; exact hqR) zs C)
    have HO := hide (lay_ok g q (by rw [HLen.out]; exact hqR) zs C)
    go_enter Tryz.func44, Tryz.ntmps44
    go_wp2_with fail
    rw [HW0.out]
    obtain ⟨cap, ps, room, more, hat⟩ := HG.out
    refine (change_any HG.out 82 _ q hqR (zs) (decide (zs.length = C) && rightL zs) (enter_of Tryz.func82 (by kernel_rfl) (by kernel_rfl)) (fun off c9 hc args hargs => ?_)).mono ?_
    · have ha2 : args = #[.slice (some ⟨M, off, none⟩) C C, .pointer (some ⟨w.heap.size, 0, none⟩)] := by simpa using hargs
      subst ha2
      exact lay1_any off _ A n c zs W0 (hz.below HB.out) hn hl hlb HS.out HX0.out rfl
    rintro e w1 ⟨rfl, hg, ht⟩
    rw [HE.out] at hg
    have HG1 := hide hg
    have HT1 := hide (Trn.ofB HB.out ht)
    clear hg ht hat
    rw [← HO.out]
    go_wp2
    go_ret
    exact ⟨rfl, HG1.out, HT1.out⟩
  · have HE := hide (lay_none g R0 (by rw [HLen.out]; exact hr) zs C)
    go_enter Tryz.func44, Tryz.ntmps44
    go_wp2_with fail
    rw [HW0.out]
    refine (change_no HG.out 82 _ R0 hr).mono ?_
    rintro e w1 ⟨rfl, rfl⟩
    go_wp2
    go_ret
    exact ⟨by rw [HE.out.2]; rfl, by rw [HE.out.1]; exact HG.out, Trn.of_below HB.out⟩
theorem glay_nil (R0 : Int) (A : Option Addr) (n c : Nat) (w : World) :
    Calls Tryz.prog 44 #[.pointer none, .int .i64 R0, .slice A n c] w fun e w' => e = .returned (.bool false) ∧ Below w.heap.size w w' := by
  obtain ⟨W0, hW0⟩ : ∃ W0, w.alloc (.cells #[.slice A n c] 41) = W0 := ⟨_, rfl⟩
  have HB : Hid (Below w.heap.size w W0) := by unfold Hid; rw [← hW0]; exact (Below.refl _ _).alloc (Nat.le_refl _) _
  have HW0 := hide hW0
  clear hW0
  go_enter Tryz.func44, Tryz.ntmps44
  go_wp2_with fail
  rw [HW0.out]
  refine (change_nil 82 _ R0 W0).mono ?_
  rintro e w1 ⟨rfl, rfl⟩
  go_wp2
  go_ret
  exact ⟨rfl, HB.out⟩
end
end Go.Proofs.YtiifeniijcnahaaGreatDoor
