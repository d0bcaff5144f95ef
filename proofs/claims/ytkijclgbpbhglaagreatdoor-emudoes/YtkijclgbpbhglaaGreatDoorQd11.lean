/-
  Contracts and plain mathematics of GChg, ChainL.
-/
import Derived.Test.YtkijclgbpbhglaaGreatDoorQd10
import Derived.Test.YtkijclgbpbhglaaGreatDoorQd3
namespace Go.Proofs.YtkijclgbpbhglaaGreatDoor
set_option maxRecDepth 100000
set_option linter.unusedVariables false
set_option maxHeartbeats 8000000
section
open Go.ChangeShapes Go.WideShapes Go.ChangeAt Go.RowKit
def Makes (w : World) (C : Nat) (x : List Cel) (ok : Bool) (e : Ending) (w' : World) : Prop := ∃ A n c, e = .returned (.tuple #[.slice A n c, .bool ok]) ∧ Below w.heap.size w w' ∧ (ok = true → n = C ∧ Cels .i32 w' A x ∧ x.length = C)
theorem enter_of {P : Program} {f : FuncId} {fn : Func} (hf : P.funcs[f]? = some fn) (hn : (fn.name == "runtime.NumGoroutine") = false) (hb : fn.body.isNone = false) : ∀ args w, (callFunc f args).run P w = .ok (.enter f args) w := by
 intro args w
 simp only [callFunc, Sem.run_bind]
 simp [hf, go_sem]
 rw [if_neg (by simpa using hn), if_neg (by intro q; simp [q] at hb)]
section
variable {w : World} {G L M R C : Nat} {g : Gd}
theorem change_any (h : Grd w G L M R C g) (f : FuncId) (caps : Array Value) (r : Nat) (hr : r < R) (x : List Cel) (ok : Bool)
  (hfc : ∀ args w, (callFunc f args).run Tryz.prog w = .ok (.enter f args) w) (hf : ∀ (off c : Nat), Cels .i32 w (some ⟨M, off, none⟩) (lAt g.ls r) → ∀ args, args = #[.slice (some ⟨M, off, none⟩) C C] ++ caps → Calls Tryz.prog f args w (Makes w C x ok)) :
  Calls Tryz.prog 193 #[.pointer (some ⟨G, 0, none⟩), .int .i64 r, .func (.func f) #[] caps] w fun e w' => e = .returned (.bool ok) ∧ Grd w' G L M R C (if ok = true then { g with ls := g.ls.set r x } else g) ∧ Trn G L M w w' := by
 have HG := hide h
 obtain ⟨cap, ps, room, more, h⟩ := h
 obtain ⟨c0, c1, c2, lG, lL, lM⟩ := h.three
 have c3 := h.row hr
 have HF := hide (hf (ps r * C * 7) 0 (h.cels hr) _ rfl)
 have HA := hide h; clear h hf
 go_enter Tryz.func193, Tryz.ntmps193
 go_wp2_with fail
 refine (has_any HG.out r).mono ?_
 rintro e w1 ⟨rfl, rfl⟩
 rw [hasG_in hr]
 go_wp2_with fail
 refine (HF.out).mono ?_
 rintro e w1 ⟨A, n, c, rfl, hb, hok⟩
 have HA1 := hide (HA.out.later hb)
 have HB := hide hb; clear c0 c1 c2 c3 lG lL lM hb
 cases ok
 case false =>
  go_wp2; go_ret
  exact ⟨rfl, .of HA1.out, .of_below HB.out⟩
 case true =>
  obtain ⟨rfl, hc, hx⟩ := hok rfl
  obtain ⟨c0, c1, c2, lG, lL, lM⟩ := HA1.out.three
  have c3 := HA1.out.row hr
  have hm := mul_room (HA1.out.perm r hr) HA1.out.len
  obtain ⟨w2, hrun, hw2, ho2⟩ := run_copyL elemL w1 3 M (ps r * n) 73 room x A n n n c HA1.out.piece hc hx hm
  rw [List.take_of_length_le (Nat.le_of_eq hx)] at hw2
  have HA2 := hide (HA1.out.lay hr x hx ho2 hw2)
  have HT : Hid (Trn G L M w w2) := by unfold Hid; exact (Trn.of_below HB.out).trans (Trn.of_onlyM ho2) (.inl rfl)
  clear hw2 ho2 hm hc hx hok; go_wp2; go_ret
  exact ⟨rfl, .of HA2.out, HT.out⟩
theorem change_no (h : Grd w G L M R C g) (f : FuncId) (caps : Array Value) (r : Int) (hr : ¬ hasG R r) :
  Calls Tryz.prog 193 #[.pointer (some ⟨G, 0, none⟩), .int .i64 r, .func (.func f) #[] caps] w fun e w' => e = .returned (.bool false) ∧ w = w' := by
 have HG := hide h
 have HD : Hid (decide (hasG R r) = false) := by unfold Hid; simp [hr]
 clear h hr
 go_enter Tryz.func193, Tryz.ntmps193
 go_wp2_with fail
 refine (has_any HG.out r).mono ?_
 rintro e w1 ⟨rfl, rfl⟩
 rw [HD.out]
 go_wp2; go_ret
 exact ⟨rfl, rfl⟩
theorem Trn.ofB {G L M : Nat} {w w0 w' : World} (hb : Below w.heap.size w w0) (h : Trn G L M w0 w') : Trn G L M w w' := (Trn.of_below hb).trans h (.inl rfl)
theorem LineN2.makes {w w' : World} {C : Nat} {X : List Cel} {ok : Bool} {e : Ending} (h : LineN2 .i32 C X ok w e w') (hx : X.length = C) : Makes w C X ok e w' := by
 obtain ⟨A, c, rfl, hc, hb⟩ := h
 exact ⟨A, C, c, rfl, hb, fun _ => ⟨rfl, hc, hx⟩⟩
theorem put1_any (off : Nat) (q q2 : Nat) (at_ r m x : Int) (d f y b : Nat) (cs : List Cel) (w : World) (hd : d < 256) (ha : -9223372036854775808 ≤ at_ ∧ at_ < 9223372036854775808) (h : Cels .i32 w (some ⟨M, off, none⟩) cs) (hn : cs.length = C) (hC : C ≤ 1000000) (hS : Spans w)
  (h1 : Whole w q 3 [.int .i64 at_]) (h2 : Whole w q2 73 [.int .i32 r, .int .i32 m, .int .i32 x, .int .u8 d, .int .u8 f, .int .u8 y, .int .u8 b]) {X : List Cel} {ok : Bool} (hX : putC cs at_ ⟨r, m, x, d, ⟨f, y, b⟩⟩ = X) (hok : putOk cs at_ ⟨r, m, x, d, ⟨f, y, b⟩⟩ = ok) :
  Calls Tryz.prog 196 #[.slice (some ⟨M, off, none⟩) C C, .pointer (some ⟨q, 0, none⟩), .pointer (some ⟨q2, 0, none⟩)] w (Makes w C X ok) := by
 have HXX := hide hX; have HOK := hide hok
 have HXL : Hid (X.length = cs.length) := by unfold Hid; rw [← hX, put_len]
 have c0 : w.cell? ⟨q, 0, none⟩ = some (.int .i64 at_) := h1.cell 0
 have lq := h1.lt
 obtain ⟨a0, a1, a2, a3, a4, a5, a6, lq2⟩ := cells7 h2
 have HC := hide h; have HN := hide hn; have HS := hide hS; have HA := hide ha; clear h hn hS h1 h2 ha hX hok
 go_enter Tryz.func196, Tryz.ntmps196
 go_wp2_with fail
 refine (put_v at_ r m x d f y b HA.out HXX.out HOK.out HC.out HN.out hC hd HS.out).mono ?_
 intro e w1 hl
 have HL := hide (hl.makes (by rw [HXL.out, HN.out]))
 obtain ⟨A, n, rfl, -, -⟩ := hl
 clear c0 a0 a1 a2 a3 a4 a5 a6; go_wp2; go_ret2
 exact HL.out
theorem put_chg (g : Gd) (r : Nat) (hr : r < g.ls.length) (c : Int) (x : Cel) : (if putOk (lAt g.ls r) c x = true then { g with ls := g.ls.set r (putC (lAt g.ls r) c x) } else g) = putG g (r : Int) c x := by
 have e : putG g (r : Int) c x = { g with ls := g.ls.set r (putC (lAt g.ls r) c x) } := by unfold putG; rw [if_pos (by unfold hasG; omega), Int.toNat_natCast]
 rw [e]
 split
 ·rfl
 ·rename_i h
  rw [putL_no _ _ _ (by simpa using h), set_same]
theorem put_ok (g : Gd) (r : Nat) (hr : r < g.ls.length) (c : Int) (x : Cel) : putGOk g (r : Int) c x = putOk (lAt g.ls r) c x := by
 unfold putGOk
 rw [hasG_in hr, Int.toNat_natCast, Bool.true_and]
theorem put_none (g : Gd) (r : Int) (hr : ¬ hasG g.ls.length r) (c : Int) (x : Cel) : putG g r c x = g ∧ putGOk g r c x = false := by
 unfold putG putGOk
 rw [if_neg hr]
 simp [hr]
theorem gput_any (h : Grd w G L M R C g) (hC : C ≤ 512) (hS : Spans w) (R0 at_ r m x : Int) (d f y b : Nat) (hd : d < 256) (ha : -9223372036854775808 ≤ at_ ∧ at_ < 9223372036854775808) :
  Calls Tryz.prog 176 #[.pointer (some ⟨G, 0, none⟩), .int .i64 R0, .int .i64 at_, .agg #[.int .i32 r, .int .i32 m, .int .i32 x, .int .u8 d, .int .u8 f, .int .u8 y, .int .u8 b]] w fun e w' => e = .returned (.bool (putGOk g R0 at_ ⟨r, m, x, d, ⟨f, y, b⟩⟩)) ∧ Grd w' G L M R C (putG g R0 at_ ⟨r, m, x, d, ⟨f, y, b⟩⟩) ∧ Trn G L M w w' := by
 obtain ⟨W0, hW0⟩ := exq ((w.alloc (.cells #[.int .i64 at_] 3)).alloc (.cells #[.int .i32 r, .int .i32 m, .int .i32 x, .int .u8 d, .int .u8 f, .int .u8 y, .int .u8 b] 73))
 have HB : Hid (Below w.heap.size w W0) := by unfold Hid; rw [← hW0]; exact two_new _ _ _ _ _
 have HS : Hid (Spans W0) := by unfold Hid; rw [← hW0]; exact (hS.alloc _).alloc _
 have HX0 : Hid (Whole W0 (w.heap.size) 3 [.int .i64 at_]) := by unfold Hid; rw [← hW0]; exact ((Whole.new _ _ _).alloc _)
 have HX1 : Hid (Whole W0 (w.heap.size + 1) 73 [.int .i32 r, .int .i32 m, .int .i32 x, .int .u8 d, .int .u8 f, .int .u8 y, .int .u8 b]) := by unfold Hid; rw [← hW0]; exact (whole_snd _ _ _ _)
 have HG := hide (h.later HB.out)
 have HLen := hide h.glen; have HW0 := hide hW0; clear hW0 h hS
 by_cases hr : hasG R R0
 ·obtain ⟨q, hq⟩ : ∃ q : Nat, R0 = (q : Int) := ⟨R0.toNat, by unfold hasG at hr; omega⟩
  subst hq
  have hqR : q < R := by unfold hasG at hr; omega
  have HE := hide (put_chg g q (by rw [HLen.out]; exact hqR) at_ ⟨r, m, x, d, ⟨f, y, b⟩⟩)
  have HO := hide (put_ok g q (by rw [HLen.out]; exact hqR) at_ ⟨r, m, x, d, ⟨f, y, b⟩⟩)
  go_enter Tryz.func176, Tryz.ntmps176
  go_wp2_with fail
  rw [HW0.out]
  obtain ⟨cap, ps, room, more, hat⟩ := HG.out
  refine (change_any HG.out 196 _ q hqR (putC (lAt g.ls q) at_ ⟨r, m, x, d, ⟨f, y, b⟩⟩) (putOk (lAt g.ls q) at_ ⟨r, m, x, d, ⟨f, y, b⟩⟩) (enter_of Tryz.func196 (by kernel_rfl) (by kernel_rfl)) (fun off c9 hc args hargs => ?_)).mono ?_
  ·have ha2 : args = #[.slice (some ⟨M, off, none⟩) C C, .pointer (some ⟨w.heap.size, 0, none⟩), .pointer (some ⟨w.heap.size + 1, 0, none⟩)] := by simpa using hargs
   subst ha2
   exact put1_any off _ _ at_ r m x d f y b _ W0 hd ha hc (hat.lenAt hqR) (by omega) HS.out HX0.out HX1.out rfl rfl
  rintro e w1 ⟨rfl, hg, ht⟩
  rw [HE.out] at hg
  have HG1 := hide hg
  have HT1 := hide (Trn.ofB HB.out ht)
  clear hg ht hat
  rw [← HO.out]
  go_wp2; go_ret
  exact ⟨rfl, HG1.out, HT1.out⟩
 ·have HE := hide (put_none g R0 (by rw [HLen.out]; exact hr) at_ ⟨r, m, x, d, ⟨f, y, b⟩⟩)
  go_enter Tryz.func176, Tryz.ntmps176
  go_wp2_with fail
  rw [HW0.out]
  refine (change_no HG.out 196 _ R0 hr).mono ?_
  rintro e w1 ⟨rfl, rfl⟩
  go_wp2; go_ret
  exact ⟨by rw [HE.out.2]; rfl, by rw [HE.out.1]; exact HG.out, Trn.of_below HB.out⟩
theorem mark1_any (off : Nat) (q q2 : Nat) (at_ y : Int) (cs : List Cel) (w : World) (h : Cels .i32 w (some ⟨M, off, none⟩) cs) (hn : cs.length = C) (hC : C ≤ 1000000) (hS : Spans w)
  (h1 : Whole w q 3 [.int .i64 at_]) (h2 : Whole w q2 21 [.int .i32 y]) {X : List Cel} {ok : Bool} (hX : lmarkC cs at_ y = (X, ok)) :
  Calls Tryz.prog 194 #[.slice (some ⟨M, off, none⟩) C C, .pointer (some ⟨q, 0, none⟩), .pointer (some ⟨q2, 0, none⟩)] w (Makes w C X ok) := by
 have HXX := hide hX
 have HXL : Hid (X.length = cs.length) := by unfold Hid; rw [← lmark_len cs at_ y, hX]
 have c0 : w.cell? ⟨q, 0, none⟩ = some (.int .i64 at_) := h1.cell 0
 have lq := h1.lt
 have a0 : w.cell? ⟨q2, 0, none⟩ = some (.int .i32 y) := h2.cell 0
 have lq2 := h2.lt
 have HC := hide h; have HN := hide hn; have HS := hide hS; clear h hn hS h1 h2 hX
 go_enter Tryz.func194, Tryz.ntmps194
 go_wp2_with fail
 refine (lmark_v at_ y HXX.out HC.out HN.out hC HS.out).mono ?_
 intro e w1 hl
 have HL := hide (hl.makes (by rw [HXL.out, HN.out]))
 obtain ⟨A, n, rfl, -, -⟩ := hl
 clear c0 a0; go_wp2; go_ret2
 exact HL.out
theorem mark_chg (g : Gd) (r : Nat) (hr : r < g.ls.length) (c y : Int) : (if (lmarkC (lAt g.ls r) c y).2 = true then { g with ls := g.ls.set r (lmarkC (lAt g.ls r) c y).1 } else g) = markG g (r : Int) c y := by
 have e : markG g (r : Int) c y = { g with ls := g.ls.set r (lmarkC (lAt g.ls r) c y).1 } := by unfold markG; rw [if_pos (by unfold hasG; omega), Int.toNat_natCast]
 rw [e]
 split
 ·rfl
 ·rename_i h
  rw [markL_no _ _ _ (by simpa using h), set_same]
theorem mark_ok (g : Gd) (r : Nat) (hr : r < g.ls.length) (c y : Int) : markGOk g (r : Int) c y = (lmarkC (lAt g.ls r) c y).2 := by
 unfold markGOk
 rw [hasG_in hr, Int.toNat_natCast, Bool.true_and]
theorem mark_none (g : Gd) (r : Int) (hr : ¬ hasG g.ls.length r) (c y : Int) : markG g r c y = g ∧ markGOk g r c y = false := by
 unfold markG markGOk
 rw [if_neg hr]
 simp [hr]
theorem gmark_any (h : Grd w G L M R C g) (hC : C ≤ 512) (hS : Spans w) (R0 at_ y : Int) :
  Calls Tryz.prog 175 #[.pointer (some ⟨G, 0, none⟩), .int .i64 R0, .int .i64 at_, .int .i32 y] w fun e w' => e = .returned (.bool (markGOk g R0 at_ y)) ∧ Grd w' G L M R C (markG g R0 at_ y) ∧ Trn G L M w w' := by
 obtain ⟨W0, hW0⟩ := exq ((w.alloc (.cells #[.int .i64 at_] 3)).alloc (.cells #[.int .i32 y] 21))
 have HB : Hid (Below w.heap.size w W0) := by unfold Hid; rw [← hW0]; exact two_new _ _ _ _ _
 have HS : Hid (Spans W0) := by unfold Hid; rw [← hW0]; exact (hS.alloc _).alloc _
 have HX0 : Hid (Whole W0 (w.heap.size) 3 [.int .i64 at_]) := by unfold Hid; rw [← hW0]; exact ((Whole.new _ _ _).alloc _)
 have HX1 : Hid (Whole W0 (w.heap.size + 1) 21 [.int .i32 y]) := by unfold Hid; rw [← hW0]; exact (whole_snd _ _ _ _)
 have HG := hide (h.later HB.out)
 have HLen := hide h.glen; have HW0 := hide hW0; clear hW0 h hS
 by_cases hr : hasG R R0
 ·obtain ⟨q, hq⟩ : ∃ q : Nat, R0 = (q : Int) := ⟨R0.toNat, by unfold hasG at hr; omega⟩
  subst hq
  have hqR : q < R := by unfold hasG at hr; omega
  have HE := hide (mark_chg g q (by rw [HLen.out]; exact hqR) at_ y)
  have HO := hide (mark_ok g q (by rw [HLen.out]; exact hqR) at_ y)
  go_enter Tryz.func175, Tryz.ntmps175
  go_wp2_with fail
  rw [HW0.out]
  obtain ⟨cap, ps, room, more, hat⟩ := HG.out
  refine (change_any HG.out 194 _ q hqR ((lmarkC (lAt g.ls q) at_ y).1) ((lmarkC (lAt g.ls q) at_ y).2) (enter_of Tryz.func194 (by kernel_rfl) (by kernel_rfl)) (fun off c9 hc args hargs => ?_)).mono ?_
  ·have ha2 : args = #[.slice (some ⟨M, off, none⟩) C C, .pointer (some ⟨w.heap.size, 0, none⟩), .pointer (some ⟨w.heap.size + 1, 0, none⟩)] := by simpa using hargs
   subst ha2
   exact mark1_any off _ _ at_ y _ W0 hc (hat.lenAt hqR) (by omega) HS.out HX0.out HX1.out rfl
  rintro e w1 ⟨rfl, hg, ht⟩
  rw [HE.out] at hg
  have HG1 := hide hg
  have HT1 := hide (Trn.ofB HB.out ht)
  clear hg ht hat
  rw [← HO.out]
  go_wp2; go_ret
  exact ⟨rfl, HG1.out, HT1.out⟩
 ·have HE := hide (mark_none g R0 (by rw [HLen.out]; exact hr) at_ y)
  go_enter Tryz.func175, Tryz.ntmps175
  go_wp2_with fail
  rw [HW0.out]
  refine (change_no HG.out 194 _ R0 hr).mono ?_
  rintro e w1 ⟨rfl, rfl⟩
  go_wp2; go_ret
  exact ⟨by rw [HE.out.2]; rfl, by rw [HE.out.1]; exact HG.out, Trn.of_below HB.out⟩
theorem erase1_any (off : Nat) (q q2 q3 : Nat) (x y : Int) (f g b : Nat) (cs : List Cel) (w : World) (h : Cels .i32 w (some ⟨M, off, none⟩) cs) (hn : cs.length = C) (hC : C ≤ 1000000)
  (h1 : Whole w q 3 [.int .i64 x]) (h2 : Whole w q2 3 [.int .i64 y]) (h3 : Whole w q3 65 [.int .u8 f, .int .u8 g, .int .u8 b]) {X : List Cel} {ok : Bool} (hX : eraseC cs x y ⟨f, g, b⟩ = X) (hok : rightN ⟨f, g, b⟩ = ok) :
  Calls Tryz.prog 199 #[.slice (some ⟨M, off, none⟩) C C, .pointer (some ⟨q, 0, none⟩), .pointer (some ⟨q2, 0, none⟩), .pointer (some ⟨q3, 0, none⟩)] w (Makes w C X ok) := by
 have HX := hide hX
 have HXL : Hid (X.length = cs.length) := by unfold Hid; rw [← hX, erase_len]
 have HC := hide h; have HN := hide hn; have H1 := hide h1; have H2 := hide h2; have H3 := hide h3; have HOK := hide hok; clear h hn h1 h2 h3 hX hok
 go_enter Tryz.func199, Tryz.ntmps199
 go_wp2
 refine rgH (fun w' => Below w.heap.size w w') [(true, 0), (true, 1), (true, 2), (true, 3), (true, 5), (false, 4), (false, 6), (false, 7), (false, 8)] bd1 ?_
 refine stH (h := ?_)
 refine stH (hy := fun w hS => by have f0 := (H1.out.later hS).cell 0; go_simp <;> with_reducible rfl) (h := ?_)
 refine stH (hy := fun w hS => by have f0 := (H2.out.later hS).cell 0; go_simp <;> with_reducible rfl) (h := ?_)
 refine stH (hy := fun w hS => by obtain ⟨a0, a1, a2, -⟩ := cells3 (H3.out.later hS); go_simp <;> with_reducible rfl) (h := ?_)
 refine stH (hy := fun w hS => by obtain ⟨a0, a1, a2, -⟩ := cells3 (H3.out.later hS); go_simp <;> with_reducible rfl) (h := ?_)
 refine alH fun K hK => ?_
 go_wp2_with fail
 refine (erase_v x y f g b HX.out HC.out.drew HN.out hC).mono ?_
 rintro e k1 ⟨A1, c1, rfl, hc1, hb⟩
 have Bk1 : Below w.heap.size w k1 := bd1.trans hb
 have HC1 := hide hc1; clear hb hc1; go_wp2
 refine hK.out _ _ Bk1 ?_
 clear hK K
 refine alH fun K hK => ?_
 go_wp2_with fail
 refine (right_any f g b k1).mono ?_
 rintro e k2 ⟨rfl, hb⟩
 have Bk2 : Below w.heap.size w k2 := Bk1.trans (hb.mono Bk1.size)
 have HC2 := hide (HC1.out.below hb)
 clear hb; go_wp2
 refine hK.out _ _ Bk2 ?_
 clear hK K
 refine alH fun K hK => ?_
 go_wp2
 refine hK.out _ _ Bk2 ?_
 clear hK K
 refine alH fun K hK => ?_
 go_wp2
 refine hK.out _ _ Bk2 ?_
 clear hK K
 refine chainH_nil ?_
 clear Bk1; have HB := hide Bk2; clear Bk2
 rw [HOK.out]
 go_wp2; go_ret2
 exact ⟨A1, C, c1, rfl, HB.out, fun _ => ⟨rfl, HC2.out, by rw [HXL.out, HN.out]⟩⟩
theorem erase_chg (g : Gd) (r : Nat) (hr : r < g.ls.length) (x y : Int) (p : Pn) : (if rightN p = true then { g with ls := g.ls.set r (eraseC (lAt g.ls r) x y p) } else g) = eraseG g (r : Int) x y p := by
 have hh : hasG g.ls.length (r : Int) := by unfold hasG; omega
 unfold eraseG
 by_cases hp : rightN p = true
 ·rw [if_pos hp, if_pos ⟨hh, hp⟩, Int.toNat_natCast]
 ·rw [if_neg hp, if_neg (fun q => hp q.2)]
theorem erase_none (g : Gd) (r : Int) (hr : ¬ hasG g.ls.length r) (x y : Int) (p : Pn) : eraseG g r x y p = g := by
 unfold eraseG
 rw [if_neg (fun q => hr q.1)]
theorem gerase_any (h : Grd w G L M R C g) (hC : C ≤ 512) (hS : Spans w) (R0 x y : Int) (f y2 b : Nat) :
  Calls Tryz.prog 178 #[.pointer (some ⟨G, 0, none⟩), .int .i64 R0, .int .i64 x, .int .i64 y, .agg #[.int .u8 f, .int .u8 y2, .int .u8 b]] w fun e w' => e = .returned (.tuple #[]) ∧ Grd w' G L M R C (eraseG g R0 x y ⟨f, y2, b⟩) ∧ Trn G L M w w' := by
 obtain ⟨W0, hW0⟩ := exq (((w.alloc (.cells #[.int .i64 x] 3)).alloc (.cells #[.int .i64 y] 3)).alloc (.cells #[.int .u8 f, .int .u8 y2, .int .u8 b] 65))
 have HB : Hid (Below w.heap.size w W0) := by unfold Hid; rw [← hW0]; exact three_new w _ _ _
 have HS : Hid (Spans W0) := by unfold Hid; rw [← hW0]; exact ((hS.alloc _).alloc _).alloc _
 have HX0 : Hid (Whole W0 (w.heap.size) 3 [.int .i64 x]) := by unfold Hid; rw [← hW0]; exact (((Whole.new _ _ _).alloc _).alloc _)
 have HX1 : Hid (Whole W0 (w.heap.size + 1) 3 [.int .i64 y]) := by unfold Hid; rw [← hW0]; exact ((whole_snd _ _ _ _).alloc _)
 have HX2 : Hid (Whole W0 (w.heap.size + 2) 65 [.int .u8 f, .int .u8 y2, .int .u8 b]) := by unfold Hid; rw [← hW0]; exact (whole_thd w _ _ 65 [.int .u8 f, .int .u8 y2, .int .u8 b])
 have HG := hide (h.later HB.out)
 have HLen := hide h.glen; have HW0 := hide hW0; clear hW0 h hS
 by_cases hr : hasG R R0
 ·obtain ⟨q, hq⟩ : ∃ q : Nat, R0 = (q : Int) := ⟨R0.toNat, by unfold hasG at hr; omega⟩
  subst hq
  have hqR : q < R := by unfold hasG at hr; omega
  have HE := hide (erase_chg g q (by rw [HLen.out]; exact hqR) x y ⟨f, y2, b⟩)
  go_enter Tryz.func178, Tryz.ntmps178
  go_wp2_with fail
  rw [HW0.out]
  obtain ⟨cap, ps, room, more, hat⟩ := HG.out
  refine (change_any HG.out 199 _ q hqR (eraseC (lAt g.ls q) x y ⟨f, y2, b⟩) (rightN ⟨f, y2, b⟩) (enter_of Tryz.func199 (by kernel_rfl) (by kernel_rfl)) (fun off c9 hc args hargs => ?_)).mono ?_
  ·have ha2 : args = #[.slice (some ⟨M, off, none⟩) C C, .pointer (some ⟨w.heap.size, 0, none⟩), .pointer (some ⟨w.heap.size + 1, 0, none⟩), .pointer (some ⟨w.heap.size + 2, 0, none⟩)] := by simpa using hargs
   subst ha2
   exact erase1_any off _ _ _ x y f y2 b _ W0 hc (hat.lenAt hqR) (by omega) HX0.out HX1.out HX2.out rfl rfl
  rintro e w1 ⟨rfl, hg, ht⟩
  rw [HE.out] at hg
  have HG1 := hide hg
  have HT1 := hide (Trn.ofB HB.out ht)
  clear hg ht hat; go_wp2
  exact bodyPost_end (v := .tuple #[]) (by simp [results, Tryz.results178]) rfl ⟨rfl, HG1.out, HT1.out⟩
 ·have HE := hide (erase_none g R0 (by rw [HLen.out]; exact hr) x y ⟨f, y2, b⟩)
  go_enter Tryz.func178, Tryz.ntmps178
  go_wp2_with fail
  rw [HW0.out]
  refine (change_no HG.out 199 _ R0 hr).mono ?_
  rintro e w1 ⟨rfl, rfl⟩
  go_wp2
  exact bodyPost_end (v := .tuple #[]) (by simp [results, Tryz.results178]) rfl ⟨rfl, by rw [HE.out]; exact HG.out, Trn.of_below HB.out⟩
end
end
section
open Go.RowKit
section
variable {P : Program} {ops : Array Oper} {Q : Exit → Act → World → Prop} {S : World → Prop} {k : Nat}
def wpAnyL (P : Program) (ops : Array Oper) (Q : Exit → Act → World → Prop) (S : World → Prop) (k : Nat) : Nat → Array Bool → Act → World → Prop
 | 0, listed, a, w => Region.ready .any ops listed = [] ∧ Q .normal a w
 | fuel + 1, listed, a, w =>
  (Region.ready .any ops listed = [] → Q .normal a w) ∧
  ∀ i ∈ Region.ready .any ops listed, wpOp P ops Q i (fun a' w' => ((listed.setIfInBounds i true).getD k false = true ∨ S w') ∧ wpAnyL P ops Q S k fuel (listed.setIfInBounds i true) a' w') a w
theorem wpAny_of_L : ∀ (fuel : Nat) (listed : Array Bool) (a : Act) (w : World), wpAnyL P ops Q S k fuel listed a w → wpAny P .any ops Q fuel listed a w
 | 0, _, _, _, h => h
 | fuel + 1, _, _, _, h => ⟨h.1, fun i hi => wpOp_mono (fun a' w' h' => wpAny_of_L fuel _ a' w' h'.2) (h.2 i hi)⟩
def ClosedL (ops : Array Oper) (listed : Array Bool) : Prop := ∀ j o, ops[j]? = some o → listed.getD j false = true → ∀ e ∈ o.after, Region.binds .any e = true → listed.getD e.on false = true
theorem ClosedL.set {listed : Array Bool} (h : ClosedL ops listed) {j : Nat} (hj : j ∈ Region.ready .any ops listed) : ClosedL ops (listed.setIfInBounds j true) := by
 obtain ⟨h0, oj, hoj, hall⟩ := mem_ready.1 hj
 intro i o ho hl e he hb
 by_cases hij : j = i
 ·subst hij
  rw [hoj] at ho
  cases ho
  exact getD_set_true (hall e he hb)
 ·rw [getD_set_ne false hij] at hl
  exact getD_set_true (h i o ho hl e he hb)
def waitsB (ops : Array Oper) : Nat → Nat → Nat → Bool
 | 0, _, _ => false
 | n + 1, k, i => match ops[k]? with
  | some o => (o.after.toList.any fun e => Region.binds .any e && e.on == i) || o.after.toList.any fun e => Region.binds .any e && waitsB ops n e.on i
  | none => false
theorem waits_listed {listed : Array Bool} (hc : ClosedL ops listed) {i : Nat} : ∀ n k, listed.getD k false = true → waitsB ops n k i = true → listed.getD i false = true := by
 intro n
 induction n with
 | zero => intro k _ h; cases h
 | succ n ih =>
  intro k hk h
  unfold waitsB at h
  split at h
  ·rename_i o ho
   rcases (Bool.or_eq_true _ _).mp h with h | h
   ·obtain ⟨e, he, hb⟩ := List.any_eq_true.1 h
    simp only [Bool.and_eq_true, beq_iff_eq] at hb
    rw [← hb.2]
    exact hc k o ho hk e (by simpa using he) hb.1
   ·obtain ⟨e, he, hb⟩ := List.any_eq_true.1 h
    simp only [Bool.and_eq_true] at hb
    exact ih _ (hc k o ho hk e (by simpa using he) hb.1) hb.2
  ·cases h
theorem waits_ready {listed : Array Bool} (hc : ClosedL ops listed) {i n : Nat} (hk : k ∈ Region.ready .any ops listed) (h : waitsB ops n k i = true) : listed.getD i false = true := by
 obtain ⟨_, o, ho, hall⟩ := mem_ready.1 hk
 cases n with
 | zero => cases h
 | succ n =>
  unfold waitsB at h
  rw [ho] at h
  rcases (Bool.or_eq_true _ _).mp h with h | h
  ·obtain ⟨e, he, hb⟩ := List.any_eq_true.1 h
   simp only [Bool.and_eq_true, beq_iff_eq] at hb
   rw [← hb.2]
   exact hall e (by simpa using he) hb.1
  ·obtain ⟨e, he, hb⟩ := List.any_eq_true.1 h
   simp only [Bool.and_eq_true] at hb
   exact waits_listed hc _ _ (hall e (by simpa using he) hb.1) hb.2
theorem unlisted {listed : Array Bool} {i : Nat} (h : i ∈ Region.ready .any ops listed) : listed.getD i false = false := by
 have h0 := (mem_ready.1 h).1
 rcases Nat.lt_or_ge i listed.size with h' | h'
 ·simp [h'] at h0 ⊢; exact h0
 ·simp [Array.getElem?_eq_none h']
theorem wpAnyL_first {i n : Nat} {oi : Oper} {v : Value} (hi : ops[i]? = some oi) (hsel : ∀ (j : Nat) (o : Oper) cs b, ops[j]? = some o → o.op ≠ .select cs b)
  (hQ : ∀ c a w, Q (.panic c) (a.put oi.dst v) w → Q (.panic c) a w) (hwait : waitsB ops n k i = true) :
  ∀ (fuel : Nat) (listed : Array Bool) (a : Act) (w : World),
   (∀ j oj, ops[j]? = some oj → j ≠ i → listed.getD j true = false → (∀ e ∈ oj.after, Region.binds .any e = true → e.on ≠ i) → oi.apart ops oj = true) →
   i ∈ Region.ready .any ops listed → YieldsIf P ops S oi v a → ClosedL ops listed → listed.getD k false = false → S w →
   wpAnyL P ops Q S k fuel (listed.setIfInBounds i true) (a.put oi.dst v) w → wpAnyL P ops Q S k (fuel + 1) listed a w := by
 intro fuel
 induction fuel with
 | zero =>
  intro listed a w _ hr hy hc hk hS H
  refine ⟨fun h => (by rw [h] at hr; cases hr), fun j hj => ?_⟩
  by_cases hji : j = i
  ·subst hji; exact hy.wpOp hi hS ⟨.inr hS, H⟩
  ·have := ready_mono hj hji
   rw [H.1] at this
   cases this
 | succ fuel ih =>
  intro listed a w hfree hr hy hc hk hS H
  refine ⟨fun h => (by rw [h] at hr; cases hr), fun j hj => ?_⟩
  by_cases hji : j = i
  ·subst hji; exact hy.wpOp hi hS ⟨.inr hS, H⟩
  ·have hjk : j ≠ k := by
    rintro rfl
    have h1 := waits_ready hc hj hwait
    rw [unlisted hr] at h1
    cases h1
   have hik : i ≠ k := by
    rintro rfl
    have h1 := waits_ready hc hr hwait
    rw [unlisted hr] at h1
    cases h1
   have h1 := H.2 j (ready_mono hj hji)
   obtain ⟨hjun, oj, hoj, hall⟩ := mem_ready.1 hj
   have hnot : ∀ e ∈ oj.after, Region.binds .any e = true → e.on ≠ i := fun e he hb heq => by
    have h1 := hall e he hb
    rw [heq, unlisted hr] at h1
    cases h1
   have h2 := wpOp_putIf hoj (hfree j oj hoj hji hjun hnot) (fun cs b => hsel i oi cs b hi) (fun cs b => hsel j oj cs b hoj) hQ hy h1
   have hfree' : ∀ k ok, ops[k]? = some ok → k ≠ i → (listed.setIfInBounds j true).getD k true = false →
     (∀ e ∈ ok.after, Region.binds .any e = true → e.on ≠ i) → oi.apart ops ok = true := fun k ok hk hki hun hno => by
    refine hfree k ok hk hki ?_ hno
    by_cases hjk : j = k
    ·subst hjk; exact hjun
    ·rw [getD_set_ne true hjk] at hun; exact hun
   refine wpOp_mono (fun a' w' h3 => ?_) h2
   have hS' : S w' := by
    rcases h3.2.1 with q | q
    ·rw [getD_set_ne false hjk, getD_set_ne false hik, hk] at q
     cases q
    ·exact q
   refine ⟨.inr hS', ih (listed.setIfInBounds j true) a' w' hfree' (ready_mono hr (Ne.symm hji)) h3.1 (hc.set hj) (by rw [getD_set_ne false hjk]; exact hk) hS' ?_⟩
   rw [Array.setIfInBounds_comm _ _ hji]
   exact h3.2.2
theorem wpAnyL_pure {i : Nat} {oi : Oper} {v : Value} (hi : ops[i]? = some oi) (hsel : ∀ (j : Nat) (o : Oper) cs b, ops[j]? = some o → o.op ≠ .select cs b)
  (hQ : ∀ c a w, Q (.panic c) (a.put oi.dst v) w → Q (.panic c) a w) (hik : i ≠ k) :
  ∀ (fuel : Nat) (listed : Array Bool) (a : Act) (w : World),
   (∀ j oj, ops[j]? = some oj → j ≠ i → listed.getD j true = false → (∀ e ∈ oj.after, Region.binds .any e = true → e.on ≠ i) → oi.apart ops oj = true) →
   i ∈ Region.ready .any ops listed → YieldsIf P ops (fun _ => True) oi v a → (listed.getD k false = true ∨ S w) →
   wpAnyL P ops Q S k fuel (listed.setIfInBounds i true) (a.put oi.dst v) w → wpAnyL P ops Q S k (fuel + 1) listed a w := by
 intro fuel
 induction fuel with
 | zero =>
  intro listed a w _ hr hy hS H
  refine ⟨fun h => (by rw [h] at hr; cases hr), fun j hj => ?_⟩
  by_cases hji : j = i
  ·subst hji; exact hy.wpOp hi trivial ⟨by rw [getD_set_ne false hik]; exact hS, H⟩
  ·have := ready_mono hj hji
   rw [H.1] at this
   cases this
 | succ fuel ih =>
  intro listed a w hfree hr hy hS H
  refine ⟨fun h => (by rw [h] at hr; cases hr), fun j hj => ?_⟩
  by_cases hji : j = i
  ·subst hji; exact hy.wpOp hi trivial ⟨by rw [getD_set_ne false hik]; exact hS, H⟩
  ·have h1 := H.2 j (ready_mono hj hji)
   obtain ⟨hjun, oj, hoj, hall⟩ := mem_ready.1 hj
   have hnot : ∀ e ∈ oj.after, Region.binds .any e = true → e.on ≠ i := fun e he hb heq => by
    have h1 := hall e he hb
    rw [heq, unlisted hr] at h1
    cases h1
   have h2 := wpOp_putIf hoj (hfree j oj hoj hji hjun hnot) (fun cs b => hsel i oi cs b hi) (fun cs b => hsel j oj cs b hoj) hQ hy h1
   have hfree' : ∀ k ok, ops[k]? = some ok → k ≠ i → (listed.setIfInBounds j true).getD k true = false →
     (∀ e ∈ ok.after, Region.binds .any e = true → e.on ≠ i) → oi.apart ops ok = true := fun k ok hk hki hun hno => by
    refine hfree k ok hk hki ?_ hno
    by_cases hjk : j = k
    ·subst hjk; exact hjun
    ·rw [getD_set_ne true hjk] at hun; exact hun
   refine wpOp_mono (fun a' w' h3 => ?_) h2
   have hS' : (listed.setIfInBounds j true).getD k false = true ∨ S w' := by
    rcases h3.2.1 with q | q
    ·rw [Array.setIfInBounds_comm _ _ (Ne.symm hji), getD_set_ne false hik] at q
     exact .inl q
    ·exact .inr q
   refine ⟨hS', ih (listed.setIfInBounds j true) a' w' hfree' (ready_mono hr (Ne.symm hji)) h3.1 hS' ?_⟩
   rw [Array.setIfInBounds_comm _ _ hji]
   exact h3.2.2
def wpChainL (P : Program) (ops : Array Oper) (Q : Exit → Act → World → Prop) (S : World → Prop) : List (Nat × Nat) → Act → World → Prop
 | [], a, w => Q .normal a w
 | (0, i) :: r, a, w => match ops[i]? with
  | some o => ∃ v, YieldsIf P ops S o v a ∧ wpChainL P ops Q S r (a.put o.dst v) w
  | none => False
 | (1, i) :: r, a, w => match ops[i]? with
  | some o => ∀ K : Act → World → Prop, (∀ a w, S w → wpChainL P ops Q S r a w → K a w) → wpList P ops (Exit.then K Q) [o] a w
  | none => False
 | (2, i) :: r, a, w => match ops[i]? with
  | some o => ∃ v, YieldsIf P ops (fun _ => True) o v a ∧ wpChainL P ops Q S r (a.put o.dst v) w
  | none => False
 | (_, i) :: r, a, w => match ops[i]? with
  | some o => ∀ K : Act → World → Prop, (∀ a w, wpChainL P ops Q S r a w → K a w) → wpList P ops (Exit.then K Q) [o] a w
  | none => False
def chainOkL (ops : Array Oper) (k : Nat) : List (Nat × Nat) → Array Bool → Bool
 | [], listed => (Region.ready .any ops listed).isEmpty
 | (0, i) :: r, listed => Region.free .any ops listed i && (Region.ready .any ops listed).contains i && waitsB ops ops.size k i && (listed.getD k false == false) && chainOkL ops k r (listed.setIfInBounds i true)
 | (1, i) :: r, listed => (Region.ready .any ops listed == [i]) && chainOkL ops k r (listed.setIfInBounds i true)
 | (2, i) :: r, listed => Region.free .any ops listed i && (Region.ready .any ops listed).contains i && (i != k) && chainOkL ops k r (listed.setIfInBounds i true)
 | (_, i) :: r, listed => (Region.ready .any ops listed == [i]) && ((listed.setIfInBounds i true).getD k false) && chainOkL ops k r (listed.setIfInBounds i true)
theorem any_of_chainL (hs : Region.noSelect ops = true) (hQ : ∀ c (d : Tmp) v a w, Q (.panic c) (Act.put a (some d) v) w → Q (.panic c) a w) :
  ∀ (l : List (Nat × Nat)) (listed : Array Bool) (a : Act) (w : World), chainOkL ops k l listed = true → ClosedL ops listed → (listed.getD k false = true ∨ S w) → wpChainL P ops Q S l a w → wpAnyL P ops Q S k l.length listed a w := by
 intro l
 induction l with
 | nil =>
  intro listed a w hok _ _ h
  exact ⟨by simpa [chainOkL] using hok, h⟩
 | cons x r ih =>
  obtain ⟨b, i⟩ := x
  intro listed a w hok hc hS h
  have hput : ∀ (o : Oper) (v : Value) c a w, Q (.panic c) (Act.put a o.dst v) w → Q (.panic c) a w := by
   intro o v c a w hh
   cases hd : o.dst with
   | none => rw [hd] at hh; exact hh
   | some d => rw [hd] at hh; exact hQ c d v a w hh
  have alone : ∀ {T : World → Prop}, Region.ready .any ops listed = [i] → (∀ w', T w' → ((listed.setIfInBounds i true).getD k false = true ∨ S w')) → chainOkL ops k r (listed.setIfInBounds i true) = true →
    (match ops[i]? with
     | some o => ∀ K : Act → World → Prop, (∀ a w, T w → wpChainL P ops Q S r a w → K a w) → wpList P ops (Exit.then K Q) [o] a w
     | none => False) → wpAnyL P ops Q S k (r.length + 1) listed a w := by
   intro T hr hT hok h
   refine ⟨fun h0 => (by rw [hr] at h0; cases h0), fun j hj => ?_⟩
   have hj' := hj
   rw [hr] at hj
   obtain rfl : j = i := by simpa using hj
   obtain ⟨_, o, ho, _⟩ := mem_ready.1 hj'
   rw [ho] at h
   have h := h (fun a' w' => ((listed.setIfInBounds j true).getD k false = true ∨ S w') ∧ wpAnyL P ops Q S k r.length (listed.setIfInBounds j true) a' w') (fun a' w' hS' h' => ⟨hT w' hS', ih _ a' w' hok (hc.set hj') (hT w' hS') h'⟩)
   unfold wpOp
   simp only [ho]
   unfold wpList at h
   split at h
   ·rename_i hw
    rw [if_pos hw]
    rcases h with h | ⟨h1, h2⟩
    ·exact .inl (upon_list (fun a' w' h' => h') _ h)
    ·exact .inr ⟨h1, h2⟩
   ·rename_i hw
    rw [if_neg hw]
    exact h
  match b with
  | 0 =>
   simp only [chainOkL, Bool.and_eq_true, beq_iff_eq] at hok
   obtain ⟨⟨⟨⟨hf, hr⟩, hwt⟩, hk⟩, hok⟩ := hok
   have hmem : i ∈ Region.ready .any ops listed := by simpa using hr
   obtain ⟨_, o, ho, _⟩ := mem_ready.1 hmem
   simp only [wpChainL, ho] at h
   obtain ⟨v, hy, h⟩ := h
   have hSw : S w := by
    rcases hS with q | q
    ·rw [hk] at q; cases q
    ·exact q
   exact wpAnyL_first ho (Region.noSelect_spec hs) (hput o v) hwt _ listed a w (Region.free_spec ho hf) hmem hy hc hk hSw (ih _ _ _ hok (hc.set hmem) (.inr hSw) h)
  | 1 =>
   simp only [chainOkL, Bool.and_eq_true, beq_iff_eq] at hok
   exact alone (T := S) hok.1 (fun w' q => .inr q) hok.2 h
  | 2 =>
   simp only [chainOkL, Bool.and_eq_true, bne_iff_ne, ne_eq] at hok
   obtain ⟨⟨⟨hf, hr⟩, hik⟩, hok⟩ := hok
   have hmem : i ∈ Region.ready .any ops listed := by simpa using hr
   obtain ⟨_, o, ho, _⟩ := mem_ready.1 hmem
   simp only [wpChainL, ho] at h
   obtain ⟨v, hy, h⟩ := h
   exact wpAnyL_pure ho (Region.noSelect_spec hs) (hput o v) hik _ listed a w (Region.free_spec ho hf) hmem hy hS (ih _ _ _ hok (hc.set hmem) (by rw [getD_set_ne false hik]; exact hS) h)
  | b + 3 =>
   simp only [chainOkL, Bool.and_eq_true, beq_iff_eq] at hok
   refine alone (T := fun _ => True) hok.1.1 (fun w' _ => .inl hok.1.2) hok.2 ?_
   obtain ⟨_, o, ho, _⟩ := mem_ready.1 (show i ∈ Region.ready .any ops listed by rw [hok.1.1]; simp)
   simp only [wpChainL, ho] at h ⊢
   exact fun K hK => h K fun a' w' h' => hK a' w' trivial h'
theorem wp_region_chainL {id : Nat} {a : Act} {w : World} (S : World → Prop) (k : Nat) (l : List (Nat × Nat)) (hm : P.follows .mixedOrders = true) (hs : Region.noSelect ops = true)
  (hok : (chainOkL ops k l (Array.replicate ops.size false) && (l.length == ops.size)) = true) (hQ : ∀ c (d : Tmp) v a w, Q (.panic c) (Act.put a (some d) v) w → Q (.panic c) a w)
  (hS : S w.drew) (h : wpChainL P ops Q S l a w.drew) : (Code.region id ops true).wp P Q a w := by
 simp only [Bool.and_eq_true, beq_iff_eq] at hok
 refine wp_region_any hm (wpAny_of_L (S := S) (k := k) _ _ _ _ ?_)
 rw [← hok.2]
 refine any_of_chainL hs hQ l _ a _ (by rw [hok.2]; exact hok.1) ?_ (.inr hS) h
 intro j o ho hl
 simp only [Array.getD_eq_getD_getElem?, Array.getElem?_replicate] at hl
 split at hl <;> simp at hl
theorem chainL_alone {i : Nat} {r : List (Nat × Nat)} {o : Oper} {a : Act} {w : World} (ho : ops[i]? = some o)
  (h : ∀ K : Act → World → Prop, Hid (∀ a w, S w → wpChainL P ops Q S r a w → K a w) → wpList P ops (Exit.then K Q) [o] a w) : wpChainL P ops Q S ((1, i) :: r) a w := by
 simp only [wpChainL, ho]
 exact fun K hK => h K hK
theorem chainL_late {i : Nat} {r : List (Nat × Nat)} {o : Oper} {a : Act} {w : World} (ho : ops[i]? = some o)
  (h : ∀ K : Act → World → Prop, Hid (∀ a w, wpChainL P ops Q S r a w → K a w) → wpList P ops (Exit.then K Q) [o] a w) : wpChainL P ops Q S ((3, i) :: r) a w := by
 simp only [wpChainL, ho]
 exact fun K hK => h K hK
theorem chainL_nil {a : Act} {w : World} (h : Q .normal a w) : wpChainL P ops Q S [] a w := h
theorem chainL_take {i : Nat} {r : List (Nat × Nat)} {o : Oper} {v : Value} {a : Act} {w : World} (ho : ops[i]? = some o) (hw : Region.wanted o (yielded ops a.tmps) = true)
  (hy : ∀ w, S w → (execOp a.eval o).run P w = .ok (.value v) w) (h : wpChainL P ops Q S r (a.put o.dst v) w) : wpChainL P ops Q S ((0, i) :: r) a w := by
 simp only [wpChainL, ho]
 exact ⟨v, Or.inl ⟨hw, hy⟩, h⟩
theorem chainL_pure {i : Nat} {r : List (Nat × Nat)} {o : Oper} {v : Value} {a : Act} {w : World} (ho : ops[i]? = some o) (hw : Region.wanted o (yielded ops a.tmps) = true)
  (hy : ∀ w, (execOp a.eval o).run P w = .ok (.value v) w) (h : wpChainL P ops Q S r (a.put o.dst v) w) : wpChainL P ops Q S ((2, i) :: r) a w := by
 simp only [wpChainL, ho]
 exact ⟨v, Or.inl ⟨hw, fun w _ => hy w⟩, h⟩
end
section
variable {P : Program} {ops : Array Oper} {Q : Exit → Act → World → Prop} {S : World → Prop}
theorem rgL {id : Nat} {a : Act} {w : World} (S : World → Prop) (k : Nat) (l : List (Nat × Nat)) (hS : S w.drew) (h : wpChainL P ops Q S l a w.drew) (hm : P.follows .mixedOrders = true := by kernel_rfl) (hs : Region.noSelect ops = true := by kernel_rfl)
  (hok : (chainOkL ops k l (Array.replicate ops.size false) && (l.length == ops.size)) = true := by kernel_rfl) (hQ : ∀ c (d : Tmp) v a w, Q (.panic c) (Act.put a (some d) v) w → Q (.panic c) a w := by exact fun _ _ _ _ _ h => h) : (Code.region id ops true).wp P Q a w := wp_region_chainL S k l hm hs hok hQ hS h
theorem alL {i : Nat} {r : List (Nat × Nat)} {o : Oper} {a : Act} {w : World}
  (h : ∀ K : Act → World → Prop, Hid (∀ a w, S w → wpChainL P ops Q S r a w → K a w) → wpList P ops (Exit.then K Q) [o] a w) (ho : ops[i]? = some o := by simp only [List.getElem?_toArray, List.getElem?_cons_zero, List.getElem?_cons_succ] <;> rfl) : wpChainL P ops Q S ((1, i) :: r) a w := chainL_alone ho h
theorem laL {i : Nat} {r : List (Nat × Nat)} {o : Oper} {a : Act} {w : World}
  (h : ∀ K : Act → World → Prop, Hid (∀ a w, wpChainL P ops Q S r a w → K a w) → wpList P ops (Exit.then K Q) [o] a w) (ho : ops[i]? = some o := by simp only [List.getElem?_toArray, List.getElem?_cons_zero, List.getElem?_cons_succ] <;> rfl) : wpChainL P ops Q S ((3, i) :: r) a w := chainL_late ho h
theorem stL {i : Nat} {r : List (Nat × Nat)} {o : Oper} {v : Value} {a a2 : Act} {w : World} (ho : ops[i]? = some o := by simp only [List.getElem?_toArray, List.getElem?_cons_zero, List.getElem?_cons_succ] <;> rfl) (hw : Region.wanted o (yielded ops a.tmps) = true := by rfl) (hy : ∀ w, S w → (execOp a.eval o).run P w = .ok (.value v) w := by intro w hS; go_simp <;> with_reducible rfl)
  (ha : a.put o.dst v = a2 := by simp only [Act.put, List.setIfInBounds_toArray, List.set_cons_zero, List.set_cons_succ] <;> rfl) (h : wpChainL P ops Q S r a2 w) : wpChainL P ops Q S ((0, i) :: r) a w := chainL_take ho hw hy (ha ▸ h)
theorem puL {i : Nat} {r : List (Nat × Nat)} {o : Oper} {v : Value} {a a2 : Act} {w : World} (ho : ops[i]? = some o := by simp only [List.getElem?_toArray, List.getElem?_cons_zero, List.getElem?_cons_succ] <;> rfl) (hw : Region.wanted o (yielded ops a.tmps) = true := by rfl) (hy : ∀ w, (execOp a.eval o).run P w = .ok (.value v) w := by intro w; go_simp <;> with_reducible rfl)
  (ha : a.put o.dst v = a2 := by simp only [Act.put, List.setIfInBounds_toArray, List.set_cons_zero, List.set_cons_succ] <;> rfl) (h : wpChainL P ops Q S r a2 w) : wpChainL P ops Q S ((2, i) :: r) a w := chainL_pure ho hw hy (ha ▸ h)
end
end
end Go.Proofs.YtkijclgbpbhglaaGreatDoor
