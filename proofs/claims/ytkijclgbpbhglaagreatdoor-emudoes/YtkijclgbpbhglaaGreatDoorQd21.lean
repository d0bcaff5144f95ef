/-
  Contracts and plain mathematics of PRef2, EDoc1.
-/
import Derived.Test.YtkijclgbpbhglaaGreatDoorQd18
import Derived.Test.YtkijclgbpbhglaaGreatDoorQd11
import Derived.Test.YtkijclgbpbhglaaGreatDoorQd19
import Derived.Test.YtkijclgbpbhglaaGreatDoorQd20
namespace Go.Proofs.YtkijclgbpbhglaaGreatDoor
set_option maxRecDepth 100000
set_option linter.unusedVariables false
set_option maxHeartbeats 8000000
section
open Go.ChangeShapes Go.WideShapes Go.ChangeAt Go.RowKit
theorem Whole.other {w : World} {b a i : Nat} {t : TypeId} {l : List Value} {u : Value} (h : Whole w b t l) (hne : ¬ b = a) : Whole (w.setCell ⟨a, i, none⟩ u) b t l := h.same (Below.heap_setCell _ _ _ _ (by simpa using hne))
theorem rpflush1_any (p : Ps) (A : Option Addr) (ln c : Nat) (A' : Option Addr) (lh c' : Nat) (es : List Ev) (Ao : Option Addr) (no co : Nat) (w : World) (hp : Dp w p A ln c A' lh c') (ho : Evo w es Ao no co) (hl : no ≤ 100000) :
  Calls Tryz.prog 138 #[.agg #[.int .i64 p.st, .slice A ln c, .slice A' lh c'], .slice Ao no co] w (DGave w ⟨p.st, p.n, []⟩ (es ++ brkE p.h)) := by
 obtain ⟨W0, hW0⟩ := exq ((w.alloc (.cells #[.int .i64 p.st, .slice A ln c, .slice A' lh c'] 36)).alloc (.cells #[.int .i64 0, .slice none 0 0, .slice none 0 0] 36))
 have HB0 : Hid (Below w.heap.size w W0) := by unfold Hid; rw [← hW0]; exact two_new _ _ _ _ _
 have HP0 : Hid (Whole W0 w.heap.size 36 [.int .i64 p.st, .slice A ln c, .slice A' lh c']) := by unfold Hid; rw [← hW0]; exact (Whole.new _ _ _).alloc _
 have HQ0 : Hid (Whole W0 (w.heap.size + 1) 36 [.int .i64 0, .slice none 0 0, .slice none 0 0]) := by unfold Hid; rw [← hW0]; exact whole_snd _ _ _ _
 have HSZ : Hid (w.heap.size + 1 + 1 = W0.heap.size) := by unfold Hid; rw [← hW0]; simp
 have HDw := hide hp; have HOw := hide ho
 have HD := hide (hp.below HB0.out)
 have HO := hide (ho.below HB0.out)
 have HW0 := hide hW0; have HL := hide hp.hl; clear hW0 hp ho
 have hne : ¬ w.heap.size = w.heap.size + 1 := by omega
 have hne' : ¬ w.heap.size + 1 = w.heap.size := by omega
 by_cases h0 : lh = 0
 ·subst h0
  have HE : Hid (es ++ brkE p.h = es) := by unfold Hid brkE; rw [if_pos (List.eq_nil_of_length_eq_zero HL.out), List.append_nil]
  have HB : Hid (Below w.heap.size w ((w.alloc (.cells #[.int .i64 p.st, .slice A ln c, .slice none 0 0] 36)).alloc (.cells #[.int .i64 p.st, .slice A ln c, .slice none 0 0] 36))) := two_new _ _ _ _ _
  go_enter Tryz.func138, Tryz.ntmps138
  go_wp2
  refine retP2 Tryz.results138 rfl rfl rfl (whole_snd w _ 36 [.int .i64 p.st, .slice A ln c, .slice none 0 0]) ?_
  have hd := HDw.out.below HB.out
  refine ⟨A, ln, c, none, 0, 0, Ao, no, co, rfl, ⟨hd.n, .nil, hd.nl, rfl, hd.c0, hd.c1, hd.c2, fun _ => rfl⟩, ?_, HB.out⟩
  rw [HE.out]
  exact HOw.out.below HB.out
 ·have HE : Hid (es ++ brkE p.h = es ++ [⟨1, 65533, []⟩]) := by unfold Hid brkE; rw [if_neg (by intro e; have := HL.out; rw [e] at this; exact h0 this.symm)]
  have hgt : decide ((0 : Int) < (lh : Int)) = true := by simp; omega
  have a2 : W0.cell? ⟨w.heap.size, 2, none⟩ = some (.slice A' lh c') := HP0.out.cell 2
  have la := HP0.out.lt
  go_enter Tryz.func138, Tryz.ntmps138
  go_wp2_with (at_builtin; refine stopw ?_)
  unfold Hid
  rw [HW0.out, HSZ.out]
  refine wpList_catE elemE rfl _ _ rfl rfl rfl (OwnE.empty W0 (Nat.zero_le _)) (HO.out.below ((Below.refl _ _).alloc (Nat.le_refl _) _)).e HO.out.nl HO.out.c0 (by simp; omega) (by omega) (by decide) ?_
  intro v1 w1 h1 _ _
  rw [List.nil_append] at h1
  obtain ⟨A1, n1, c1, rfl⟩ := h1.slice
  have HV1 := hide h1
  have hlo : es.length ≤ 1000000 := by have := HO.out.nl; omega
  clear h1 a2 la
  go_wp2_with (at_builtin; refine stopw ?_)
  unfold Hid
  refine wpList_pushE elemE 1 65533 none 0 [] 0 rfl .nil rfl _ _ rfl rfl rfl HV1.out hlo (by omega) (by decide) ?_
  intro v2 w2 h2 _ _
  have HBW : Hid (Below W0.heap.size W0 w2) := h2.bel
  obtain ⟨A2, n2, c2, rfl, hev⟩ := h2.evo
  have HEV := hide hev
  have HP2 := hide (HP0.out.later HBW.out)
  have HQ2 := hide (HQ0.out.later HBW.out)
  have HD2 := hide (HD.out.below HBW.out)
  have HB2 : Hid (Below w.heap.size w w2) := HB0.out.trans (HBW.out.mono HB0.out.size)
  clear h2 hev HV1
  have H1 : Hid (Whole (w2.setCell ⟨w.heap.size, 2, none⟩ (.slice none 0 0)) w.heap.size 36 [.int .i64 p.st, .slice A ln c, .slice none 0 0]) := HP2.out.put 2 _
  have H2 := hide (HQ2.out.other (i := 2) (u := .slice none 0 0) hne')
  obtain ⟨a0, a1, a2, la⟩ := cells3 HP2.out
  obtain ⟨s0, s1, s2, ls⟩ := cells3 H1.out
  obtain ⟨q0, q1, q2, lq⟩ := cells3 H2.out
  have z0 := HP2.out.frozen 2
  have zq := H2.out.frozen
  have HB1 : Hid (Below w.heap.size w (w2.setCell ⟨w.heap.size, 2, none⟩ (.slice none 0 0))) := HB2.out.setCell (p := ⟨w.heap.size, 2, none⟩) (Nat.le_refl _) _
  have HS1 : Hid (∀ t, t ≠ 36 → Stays t w2 (w2.setCell ⟨w.heap.size, 2, none⟩ (.slice none 0 0))) := fun t ht => Stays.put HP2.out ht
  go_wp2
  refine retP2 Tryz.results138 rfl rfl rfl (put3 H2.out _ _ _) ?_
  refine ⟨A, ln, c, none, 0, 0, A2, n2, c2, rfl, ?_, ?_, below_put3 HB1.out (by omega) _ _ _⟩
  ·have hst : ∀ t, t ≠ 36 → Stays t w2 _ := fun t ht => (HS1.out t ht).trans (stays_put3 H2.out ht (.int .i64 p.st) (.slice A ln c) (.slice none 0 0))
   exact ⟨HD2.out.n.keep (fun _ q => absurd q (by omega)) (hst 3 (by decide)), .nil, HD2.out.nl, rfl, HD2.out.c0, HD2.out.c1, HD2.out.c2, fun _ => rfl⟩
  ·have hst : ∀ t, t ≠ 36 → Stays t w2 _ := fun t ht => (HS1.out t ht).trans (stays_put3 H2.out ht (.int .i64 p.st) (.slice A ln c) (.slice none 0 0))
   rw [HE.out]
   exact HEV.out.keep (hst 3 (by decide)) (hst 60 (by decide))
theorem put10 {w : World} {q : Nat} {t : TypeId} {y0 y1 y2 y3 y4 y5 y6 y7 y8 y9 : Value} (hw : Whole w q t [y0, y1, y2, y3, y4, y5, y6, y7, y8, y9]) (x0 x1 x2 x3 x4 x5 x6 x7 x8 x9 : Value) :
  Whole ((((((((((w.setCell ⟨q, 0, none⟩ x0).setCell ⟨q, 1, none⟩ x1).setCell ⟨q, 2, none⟩ x2).setCell ⟨q, 3, none⟩ x3).setCell ⟨q, 4, none⟩ x4).setCell ⟨q, 5, none⟩ x5).setCell ⟨q, 6, none⟩ x6).setCell ⟨q, 7, none⟩ x7).setCell ⟨q, 8, none⟩ x8).setCell ⟨q, 9, none⟩ x9) q t [x0, x1, x2, x3, x4, x5, x6, x7, x8, x9] :=
 (((((((((hw.put 0 x0).put 1 x1).put 2 x2).put 3 x3).put 4 x4).put 5 x5).put 6 x6).put 7 x7).put 8 x8).put 9 x9
theorem only10 {w : World} {q : Nat} (x0 x1 x2 x3 x4 x5 x6 x7 x8 x9 : Value) :
  Only q w ((((((((((w.setCell ⟨q, 0, none⟩ x0).setCell ⟨q, 1, none⟩ x1).setCell ⟨q, 2, none⟩ x2).setCell ⟨q, 3, none⟩ x3).setCell ⟨q, 4, none⟩ x4).setCell ⟨q, 5, none⟩ x5).setCell ⟨q, 6, none⟩ x6).setCell ⟨q, 7, none⟩ x7).setCell ⟨q, 8, none⟩ x8).setCell ⟨q, 9, none⟩ x9) :=
 (((((((((Only.put 0 x0).trans (Only.put 1 x1)).trans (Only.put 2 x2)).trans (Only.put 3 x3)).trans (Only.put 4 x4)).trans (Only.put 5 x5)).trans (Only.put 6 x6)).trans (Only.put 7 x7)).trans (Only.put 8 x8)).trans (Only.put 9 x9)
theorem Stays.of_only {t t' : TypeId} {w w' : World} {q : Nat} {l : List Value} (h : Only q w w') (hw : Whole w q t' l) (ht : t ≠ t') : Stays t w w' := by
 intro b cur hb
 have hw2 : Whole w b t cur.toList := by unfold Whole; simpa using hb
 exact h.block b hw2.lt (by have := hw2.ne hw ht; simp; exact this)
section
variable {w w' w1 : World} {d : Dv} {R C : Nat} {e : Em}
theorem Doc.only {q : Nat} {l : List Value} (h : Doc w d e) (ho : Only q w w') (hw : Whole w q 40 l) : Doc w' d e := h.keep (.of_only ho hw (by decide)) (.of_only ho hw (by decide)) (.of_only ho hw (by decide)) (.of_only ho hw (by decide))
theorem Doc.as {e2 : Em} (h : Doc w d e) (h1 : e2.g.ls = e.g.ls) (h2 : e2.p = e.p) : Doc w d e2 := ⟨by rw [h1]; exact h.lns, by rw [h2]; exact h.dp⟩
theorem Lns.only {q : Nat} {A : Option Addr} {ls : List (List Cel)} {l : List Value} (h : Lns w A ls) (ho : Only q w w') (hw : Whole w q 40 l) : Lns w' A ls := h.keep (.of_only ho hw (by decide)) (.of_only ho hw (by decide))
theorem retDoc {fn : Func} {a : Act} {s q : Nat} {y0 y1 y2 y3 y4 y5 y6 y7 y8 y9 : Value} (hr : fn.results = #[.cell s 40]) (h4 : a.tmps.getD s undef = .pointer (some ⟨q, 0, none⟩)) (hd : a.defers = []) (hQ : Whole w1 q 40 [y0, y1, y2, y3, y4, y5, y6, y7, y8, y9]) (d : Dv) (hdoc : Doc w1 d e) (hb : Below w.heap.size w w1) (hq : w.heap.size ≤ q) :
  bodyPost Tryz.prog fn (GaveM R e w) .ret a ((((((((((w1.setCell ⟨q, 0, none⟩ (.slice d.A R d.cap)).setCell ⟨q, 1, none⟩ (.int .i64 e.g.row)).setCell ⟨q, 2, none⟩ (.int .i64 e.g.col)).setCell ⟨q, 3, none⟩ (.int .i64 e.p.st)).setCell ⟨q, 4, none⟩ (.slice d.N d.ln d.cn)).setCell ⟨q, 5, none⟩ (.slice d.H d.lh d.ch)).setCell ⟨q, 6, none⟩ (.int .u8 e.pen.f)).setCell ⟨q, 7, none⟩ (.int .u8 e.pen.g)).setCell ⟨q, 8, none⟩ (.int .u8 e.pen.b)).setCell ⟨q, 9, none⟩ (.bool e.wrap)) :=
 retM hr h4 hd (put10 hQ _ _ _ _ _ _ _ _ _ _) ⟨d, rfl, hdoc.only (only10 _ _ _ _ _ _ _ _ _ _) hQ, (only10 _ _ _ _ _ _ _ _ _ _).below hb hb.size hq⟩
theorem GaveM.lit {x : Ending} (h : GaveM R e w x w') : ∃ A cap N ln cn H lh ch, x = .returned (.agg #[.slice A R cap, .int .i64 e.g.row, .int .i64 e.g.col, .int .i64 e.p.st, .slice N ln cn, .slice H lh ch, .int .u8 e.pen.f, .int .u8 e.pen.g, .int .u8 e.pen.b, .bool e.wrap]) ∧ Doc w' ⟨A, cap, N, ln, cn, H, lh, ch⟩ e ∧ Below w.heap.size w w' := by
 obtain ⟨⟨A, cap, N, ln, cn, H, lh, ch⟩, rfl, hd, hb⟩ := h
 exact ⟨A, cap, N, ln, cn, H, lh, ch, rfl, hd, hb⟩
theorem rblank9_any (d : Dv) (w : World) : Calls Tryz.prog 108 #[.agg #[.slice d.A R d.cap, .int .i64 e.g.row, .int .i64 e.g.col, .int .i64 e.p.st, .slice d.N d.ln d.cn, .slice d.H d.lh d.ch, .int .u8 e.pen.f, .int .u8 e.pen.g, .int .u8 e.pen.b, .bool e.wrap]] w (Penned (blankP e.pen) w) := by
 go_enter Tryz.func108, Tryz.ntmps108
 go_wp2
 exact ret3 Tryz.results108 (.inr rfl) rfl rfl (pn_whole_snd w _ 38 [.int .u8 0, .int .u8 0, .int .u8 e.pen.b]) ⟨rfl, ((Below.refl _ _).alloc (Nat.le_refl _) _).alloc (by simp) _⟩
theorem rmove_any (h : Doc w d e) (hok : EOk e R C) (r c : Int) : Calls Tryz.prog 56 #[.agg #[.slice d.A R d.cap, .int .i64 e.g.row, .int .i64 e.g.col, .int .i64 e.p.st, .slice d.N d.ln d.cn, .slice d.H d.lh d.ch, .int .u8 e.pen.f, .int .u8 e.pen.g, .int .u8 e.pen.b, .bool e.wrap], .int .i64 r, .int .i64 c] w (GaveM R (moveE e C r c) w) := by
 obtain ⟨W0, hW0⟩ := exq ((w.alloc (.cells #[.slice d.A R d.cap, .int .i64 e.g.row, .int .i64 e.g.col, .int .i64 e.p.st, .slice d.N d.ln d.cn, .slice d.H d.lh d.ch, .int .u8 e.pen.f, .int .u8 e.pen.g, .int .u8 e.pen.b, .bool e.wrap] 40)).alloc (.cells #[.slice none 0 0, .int .i64 0, .int .i64 0, .int .i64 0, .slice none 0 0, .slice none 0 0, .int .u8 0, .int .u8 0, .int .u8 0, .bool false] 40))
 have HB0 : Hid (Below w.heap.size w W0) := by unfold Hid; rw [← hW0]; exact two_new _ _ _ _ _
 have HP0 : Hid (Whole W0 w.heap.size 40 [.slice d.A R d.cap, .int .i64 e.g.row, .int .i64 e.g.col, .int .i64 e.p.st, .slice d.N d.ln d.cn, .slice d.H d.lh d.ch, .int .u8 e.pen.f, .int .u8 e.pen.g, .int .u8 e.pen.b, .bool e.wrap]) := by unfold Hid; rw [← hW0]; exact (Whole.new _ _ _).alloc _
 have HQ0 : Hid (Whole W0 (w.heap.size + 1) 40 [.slice none 0 0, .int .i64 0, .int .i64 0, .int .i64 0, .slice none 0 0, .slice none 0 0, .int .u8 0, .int .u8 0, .int .u8 0, .bool false]) := by unfold Hid; rw [← hW0]; exact whole_snd _ _ _ _
 have HW0 := hide hW0; have HDW := hide h
 have HD0 := hide (h.below HB0.out)
 have HOK := hide hok; clear hW0 h
 have hR1 := hok.g.r1
 have hR2 := hok.g.r2
 have hC1 := hok.g.c1
 have hC2 := hok.g.c2
 have hrow := hok.g.row
 have hcol := hok.g.col
 have HLen := hide hok.g.len
 have HC0 := hide (hok.g.each 0 hok.g.r1).1
 clear hok
 have hne : ¬ w.heap.size = w.heap.size + 1 := by omega
 have hne2 : ¬ w.heap.size + 1 = w.heap.size := by omega
 go_enter Tryz.func56, Tryz.ntmps56
 go_wp2_with fail
 rw [HW0.out]
 refine (rgmove_any d.A R C d.cap e.g W0 HD0.out.lns HLen.out hR1 hR2 hC1 hC2 HC0.out r c).mono ?_
 rintro x k1 ⟨A1, cap1, rfl, hl, hb⟩
 have hp1 := HP0.out.later hb
 have hq1 := HQ0.out.later hb
 have ho1 : Only w.heap.size k1 ((((k1.setCell ⟨w.heap.size, 0, none⟩ (.slice A1 R cap1)).setCell ⟨w.heap.size, 1, none⟩ (.int .i64 ((moveG e.g r c C).row : Int))).setCell ⟨w.heap.size, 2, none⟩ (.int .i64 ((moveG e.g r c C).col : Int))).setCell ⟨w.heap.size, 9, none⟩ (.bool false)) := ((((Only.put 0 _).trans (Only.put 1 _)).trans (Only.put 2 _)).trans (Only.put 9 _))
 have HB1 : Hid (Below w.heap.size w ((((k1.setCell ⟨w.heap.size, 0, none⟩ (.slice A1 R cap1)).setCell ⟨w.heap.size, 1, none⟩ (.int .i64 ((moveG e.g r c C).row : Int))).setCell ⟨w.heap.size, 2, none⟩ (.int .i64 ((moveG e.g r c C).col : Int))).setCell ⟨w.heap.size, 9, none⟩ (.bool false))) := by unfold Hid; have hbb := HB0.out.trans (hb.mono HB0.out.size); exact ho1.below hbb hbb.size (Nat.le_refl _)
 have HD1 : Hid (Doc ((((k1.setCell ⟨w.heap.size, 0, none⟩ (.slice A1 R cap1)).setCell ⟨w.heap.size, 1, none⟩ (.int .i64 ((moveG e.g r c C).row : Int))).setCell ⟨w.heap.size, 2, none⟩ (.int .i64 ((moveG e.g r c C).col : Int))).setCell ⟨w.heap.size, 9, none⟩ (.bool false)) ⟨A1, cap1, d.N, d.ln, d.cn, d.H, d.lh, d.ch⟩ (moveE e C r c)) := ⟨hl.only ho1 hp1, (HD0.out.below hb).dp.keep (.of_only ho1 hp1 (by decide)) (.of_only ho1 hp1 (by decide))⟩
 have HQ1 : Hid (Whole ((((k1.setCell ⟨w.heap.size, 0, none⟩ (.slice A1 R cap1)).setCell ⟨w.heap.size, 1, none⟩ (.int .i64 ((moveG e.g r c C).row : Int))).setCell ⟨w.heap.size, 2, none⟩ (.int .i64 ((moveG e.g r c C).col : Int))).setCell ⟨w.heap.size, 9, none⟩ (.bool false)) (w.heap.size + 1) 40 [.slice none 0 0, .int .i64 0, .int .i64 0, .int .i64 0, .slice none 0 0, .slice none 0 0, .int .u8 0, .int .u8 0, .int .u8 0, .bool false]) := ((((hq1.other hne2).other hne2).other hne2).other hne2)
 obtain ⟨p0, p1, p2, p3, p4, p5, p6, p7, p8, p9, lp⟩ := cells10 hp1
 obtain ⟨r0, r1, r2, r3, r4, r5, r6, r7, r8, r9, lr⟩ := cells10 hq1
 have zp := hp1.frozen
 have zq := hq1.frozen
 have HL1 := hide hl; clear hl hb hp1 hq1 ho1; go_wp2
 exact retDoc Tryz.results56 rfl rfl HQ1.out ⟨A1, cap1, d.N, d.ln, d.cn, d.H, d.lh, d.ch⟩ HD1.out HB1.out (by omega)
theorem rerase9_any (h : Doc w d e) (hok : EOk e R C) (r x y : Int) : Calls Tryz.prog 58 #[.agg #[.slice d.A R d.cap, .int .i64 e.g.row, .int .i64 e.g.col, .int .i64 e.p.st, .slice d.N d.ln d.cn, .slice d.H d.lh d.ch, .int .u8 e.pen.f, .int .u8 e.pen.g, .int .u8 e.pen.b, .bool e.wrap], .int .i64 r, .int .i64 x, .int .i64 y] w (GaveM R { e with g := eraseG e.g r x y (blankP e.pen) } w) := by
 obtain ⟨W0, hW0⟩ := exq ((w.alloc (.cells #[.slice d.A R d.cap, .int .i64 e.g.row, .int .i64 e.g.col, .int .i64 e.p.st, .slice d.N d.ln d.cn, .slice d.H d.lh d.ch, .int .u8 e.pen.f, .int .u8 e.pen.g, .int .u8 e.pen.b, .bool e.wrap] 40)).alloc (.cells #[.slice none 0 0, .int .i64 0, .int .i64 0, .int .i64 0, .slice none 0 0, .slice none 0 0, .int .u8 0, .int .u8 0, .int .u8 0, .bool false] 40))
 have HB0 : Hid (Below w.heap.size w W0) := by unfold Hid; rw [← hW0]; exact two_new _ _ _ _ _
 have HP0 : Hid (Whole W0 w.heap.size 40 [.slice d.A R d.cap, .int .i64 e.g.row, .int .i64 e.g.col, .int .i64 e.p.st, .slice d.N d.ln d.cn, .slice d.H d.lh d.ch, .int .u8 e.pen.f, .int .u8 e.pen.g, .int .u8 e.pen.b, .bool e.wrap]) := by unfold Hid; rw [← hW0]; exact (Whole.new _ _ _).alloc _
 have HQ0 : Hid (Whole W0 (w.heap.size + 1) 40 [.slice none 0 0, .int .i64 0, .int .i64 0, .int .i64 0, .slice none 0 0, .slice none 0 0, .int .u8 0, .int .u8 0, .int .u8 0, .bool false]) := by unfold Hid; rw [← hW0]; exact whole_snd _ _ _ _
 have HW0 := hide hW0; have HDW := hide h
 have HD0 := hide (h.below HB0.out)
 have HOK := hide hok; clear hW0 h
 have hR1 := hok.g.r1
 have hR2 := hok.g.r2
 have hC1 := hok.g.c1
 have hC2 := hok.g.c2
 have hrow := hok.g.row
 have hcol := hok.g.col
 have HLen := hide hok.g.len
 have HC0 := hide (hok.g.each 0 hok.g.r1).1
 clear hok
 have hne : ¬ w.heap.size = w.heap.size + 1 := by omega
 have hne2 : ¬ w.heap.size + 1 = w.heap.size := by omega
 go_enter Tryz.func58, Tryz.ntmps58
 go_wp2; rw [HW0.out]
 obtain ⟨p0, p1, p2, p3, p4, p5, p6, p7, p8, p9, lp⟩ := cells10 HP0.out
 refine rgL (fun w' => Below W0.heap.size W0 w') 9 [(0, 2), (0, 3), (0, 4), (0, 0), (0, 1), (1, 5), (1, 6), (1, 7), (1, 8), (3, 9)] bd1 ?_
 iterate 4 refine stL (h := ?_)
 refine stL (hy := fun w hS => by obtain ⟨p0, p1, p2, p3, p4, p5, p6, p7, p8, p9, lp⟩ := cells10 (HP0.out.later hS); go_simp <;> with_reducible rfl) (h := ?_)
 refine alL fun K hK => ?_
 go_wp2
 refine hK.out _ _ bd1 ?_
 clear hK K
 refine alL fun K hK => ?_
 go_wp2_with fail
 refine (rblank9_any (e := e) (R := R) d _).mono ?_
 rintro x0 k0 ⟨rfl, hb⟩
 have B0 : Below W0.heap.size W0 k0 := bd1.trans hb
 clear hb; go_wp2
 refine hK.out _ _ (B0) ?_
 clear hK K
 refine alL fun K hK => ?_
 go_wp2_with fail
 refine (rgerase_any d.A R C d.cap e.g k0 (HD0.out.below B0).lns HOK.out.g r x y 0 0 e.pen.b).mono ?_
 rintro x1 k1 ⟨A1, cap1, rfl, hl, hb0⟩
 have B1 : Below W0.heap.size W0 k1 := B0.trans (hb0.mono B0.size)
 go_wp2
 refine hK.out _ _ (B1) ?_
 clear hK K
 refine alL fun K hK => ?_
 go_wp2
 refine hK.out _ _ (B1) ?_
 clear hK K
 refine laL fun K hK => ?_
 have hp1 := HP0.out.later B1
 have hq1 := HQ0.out.later B1
 have ho1 : Only w.heap.size k1 (((k1.setCell ⟨w.heap.size, 0, none⟩ (.slice A1 R cap1)).setCell ⟨w.heap.size, 1, none⟩ (.int .i64 ((eraseG e.g r x y (blankP e.pen)).row : Int))).setCell ⟨w.heap.size, 2, none⟩ (.int .i64 ((eraseG e.g r x y (blankP e.pen)).col : Int))) := (((Only.put 0 _).trans (Only.put 1 _)).trans (Only.put 2 _))
 have HB1 : Hid (Below w.heap.size w (((k1.setCell ⟨w.heap.size, 0, none⟩ (.slice A1 R cap1)).setCell ⟨w.heap.size, 1, none⟩ (.int .i64 ((eraseG e.g r x y (blankP e.pen)).row : Int))).setCell ⟨w.heap.size, 2, none⟩ (.int .i64 ((eraseG e.g r x y (blankP e.pen)).col : Int)))) := by unfold Hid; have hbb := HB0.out.trans (B1.mono HB0.out.size); exact ho1.below hbb hbb.size (Nat.le_refl _)
 have HD1 : Hid (Doc (((k1.setCell ⟨w.heap.size, 0, none⟩ (.slice A1 R cap1)).setCell ⟨w.heap.size, 1, none⟩ (.int .i64 ((eraseG e.g r x y (blankP e.pen)).row : Int))).setCell ⟨w.heap.size, 2, none⟩ (.int .i64 ((eraseG e.g r x y (blankP e.pen)).col : Int))) ⟨A1, cap1, d.N, d.ln, d.cn, d.H, d.lh, d.ch⟩ { e with g := eraseG e.g r x y (blankP e.pen) }) := ⟨hl.only ho1 hp1, (HD0.out.below B1).dp.keep (.of_only ho1 hp1 (by decide)) (.of_only ho1 hp1 (by decide))⟩
 have HQ1 : Hid (Whole (((k1.setCell ⟨w.heap.size, 0, none⟩ (.slice A1 R cap1)).setCell ⟨w.heap.size, 1, none⟩ (.int .i64 ((eraseG e.g r x y (blankP e.pen)).row : Int))).setCell ⟨w.heap.size, 2, none⟩ (.int .i64 ((eraseG e.g r x y (blankP e.pen)).col : Int))) (w.heap.size + 1) 40 [.slice none 0 0, .int .i64 0, .int .i64 0, .int .i64 0, .slice none 0 0, .slice none 0 0, .int .u8 0, .int .u8 0, .int .u8 0, .bool false]) := (((hq1.other hne2).other hne2).other hne2)
 obtain ⟨p0, p1, p2, p3, p4, p5, p6, p7, p8, p9, lp⟩ := cells10 hp1
 obtain ⟨r0, r1, r2, r3, r4, r5, r6, r7, r8, r9, lr⟩ := cells10 hq1
 have zp := hp1.frozen
 have zq := hq1.frozen
 have HL1 := hide hl; clear hl hp1 hq1 ho1; go_wp2
 refine hK.out _ _ ?_
 clear hK K
 refine chainL_nil ?_
 clear B0; go_wp2
 exact retDoc Tryz.results58 rfl rfl HQ1.out ⟨A1, cap1, d.N, d.ln, d.cn, d.H, d.lh, d.ch⟩ HD1.out HB1.out (by omega)
theorem rfeed9_any (h : Doc w d e) (hok : EOk e R C) : Calls Tryz.prog 57 #[.agg #[.slice d.A R d.cap, .int .i64 e.g.row, .int .i64 e.g.col, .int .i64 e.p.st, .slice d.N d.ln d.cn, .slice d.H d.lh d.ch, .int .u8 e.pen.f, .int .u8 e.pen.g, .int .u8 e.pen.b, .bool e.wrap]] w (GaveM R { e with g := feedG e.g C (blankP e.pen) } w) := by
 obtain ⟨W0, hW0⟩ := exq ((w.alloc (.cells #[.slice d.A R d.cap, .int .i64 e.g.row, .int .i64 e.g.col, .int .i64 e.p.st, .slice d.N d.ln d.cn, .slice d.H d.lh d.ch, .int .u8 e.pen.f, .int .u8 e.pen.g, .int .u8 e.pen.b, .bool e.wrap] 40)).alloc (.cells #[.slice none 0 0, .int .i64 0, .int .i64 0, .int .i64 0, .slice none 0 0, .slice none 0 0, .int .u8 0, .int .u8 0, .int .u8 0, .bool false] 40))
 have HB0 : Hid (Below w.heap.size w W0) := by unfold Hid; rw [← hW0]; exact two_new _ _ _ _ _
 have HP0 : Hid (Whole W0 w.heap.size 40 [.slice d.A R d.cap, .int .i64 e.g.row, .int .i64 e.g.col, .int .i64 e.p.st, .slice d.N d.ln d.cn, .slice d.H d.lh d.ch, .int .u8 e.pen.f, .int .u8 e.pen.g, .int .u8 e.pen.b, .bool e.wrap]) := by unfold Hid; rw [← hW0]; exact (Whole.new _ _ _).alloc _
 have HQ0 : Hid (Whole W0 (w.heap.size + 1) 40 [.slice none 0 0, .int .i64 0, .int .i64 0, .int .i64 0, .slice none 0 0, .slice none 0 0, .int .u8 0, .int .u8 0, .int .u8 0, .bool false]) := by unfold Hid; rw [← hW0]; exact whole_snd _ _ _ _
 have HW0 := hide hW0; have HDW := hide h
 have HD0 := hide (h.below HB0.out)
 have HOK := hide hok; clear hW0 h
 have hR1 := hok.g.r1
 have hR2 := hok.g.r2
 have hC1 := hok.g.c1
 have hC2 := hok.g.c2
 have hrow := hok.g.row
 have hcol := hok.g.col
 have HLen := hide hok.g.len
 have HC0 := hide (hok.g.each 0 hok.g.r1).1
 clear hok
 have hne : ¬ w.heap.size = w.heap.size + 1 := by omega
 have hne2 : ¬ w.heap.size + 1 = w.heap.size := by omega
 by_cases hl0 : e.g.row + 1 = R
 ·have hq : ((e.g.row : Int) == (R : Int) - 1) = true := by simp; omega
  have HF := hide (feed_last HOK.out.g hl0 (blankP e.pen))
  go_enter Tryz.func57, Tryz.ntmps57
  go_wp2; rw [HW0.out]
  obtain ⟨p0, p1, p2, p3, p4, p5, p6, p7, p8, p9, lp⟩ := cells10 HP0.out
  refine rgL (fun w' => Below W0.heap.size W0 w') 6 [(0, 0), (0, 1), (1, 2), (1, 3), (1, 4), (1, 5), (3, 6)] bd1 ?_
  refine stL (h := ?_)
  refine stL (hy := fun w hS => by obtain ⟨p0, p1, p2, p3, p4, p5, p6, p7, p8, p9, lp⟩ := cells10 (HP0.out.later hS); go_simp <;> with_reducible rfl) (h := ?_)
  refine alL fun K hK => ?_
  go_wp2
  refine hK.out _ _ bd1 ?_
  clear hK K
  refine alL fun K hK => ?_
  go_wp2_with fail
  refine (rblank9_any (e := e) (R := R) d _).mono ?_
  rintro x0 k0 ⟨rfl, hb⟩
  have B0 : Below W0.heap.size W0 k0 := bd1.trans hb
  clear hb; go_wp2
  refine hK.out _ _ (B0) ?_
  clear hK K
  refine alL fun K hK => ?_
  go_wp2_with fail
  refine (rgscroll_any d.A R C d.cap e.g k0 (HD0.out.below B0).lns HOK.out.g 1 0 0 e.pen.b).mono ?_
  rintro x1 k1 ⟨A1, cap1, rfl, hl, hb0⟩
  rw [show scrollG e.g C 1 ⟨0, 0, e.pen.b⟩ = scrollG e.g C 1 (blankP e.pen) from rfl, ← HF.out] at hl
  rw [show scrollG e.g C 1 ⟨0, 0, e.pen.b⟩ = scrollG e.g C 1 (blankP e.pen) from rfl, ← HF.out]
  have B1 : Below W0.heap.size W0 k1 := B0.trans (hb0.mono B0.size)
  go_wp2
  refine hK.out _ _ (B1) ?_
  clear hK K
  refine alL fun K hK => ?_
  go_wp2
  refine hK.out _ _ (B1) ?_
  clear hK K
  refine laL fun K hK => ?_
  have hp1 := HP0.out.later B1
  have hq1 := HQ0.out.later B1
  have ho1 : Only w.heap.size k1 (((k1.setCell ⟨w.heap.size, 0, none⟩ (.slice A1 R cap1)).setCell ⟨w.heap.size, 1, none⟩ (.int .i64 ((feedG e.g C (blankP e.pen)).row : Int))).setCell ⟨w.heap.size, 2, none⟩ (.int .i64 ((feedG e.g C (blankP e.pen)).col : Int))) := (((Only.put 0 _).trans (Only.put 1 _)).trans (Only.put 2 _))
  have HB1 : Hid (Below w.heap.size w (((k1.setCell ⟨w.heap.size, 0, none⟩ (.slice A1 R cap1)).setCell ⟨w.heap.size, 1, none⟩ (.int .i64 ((feedG e.g C (blankP e.pen)).row : Int))).setCell ⟨w.heap.size, 2, none⟩ (.int .i64 ((feedG e.g C (blankP e.pen)).col : Int)))) := by unfold Hid; have hbb := HB0.out.trans (B1.mono HB0.out.size); exact ho1.below hbb hbb.size (Nat.le_refl _)
  have HD1 : Hid (Doc (((k1.setCell ⟨w.heap.size, 0, none⟩ (.slice A1 R cap1)).setCell ⟨w.heap.size, 1, none⟩ (.int .i64 ((feedG e.g C (blankP e.pen)).row : Int))).setCell ⟨w.heap.size, 2, none⟩ (.int .i64 ((feedG e.g C (blankP e.pen)).col : Int))) ⟨A1, cap1, d.N, d.ln, d.cn, d.H, d.lh, d.ch⟩ { e with g := feedG e.g C (blankP e.pen) }) := ⟨hl.only ho1 hp1, (HD0.out.below B1).dp.keep (.of_only ho1 hp1 (by decide)) (.of_only ho1 hp1 (by decide))⟩
  have HQ1 : Hid (Whole (((k1.setCell ⟨w.heap.size, 0, none⟩ (.slice A1 R cap1)).setCell ⟨w.heap.size, 1, none⟩ (.int .i64 ((feedG e.g C (blankP e.pen)).row : Int))).setCell ⟨w.heap.size, 2, none⟩ (.int .i64 ((feedG e.g C (blankP e.pen)).col : Int))) (w.heap.size + 1) 40 [.slice none 0 0, .int .i64 0, .int .i64 0, .int .i64 0, .slice none 0 0, .slice none 0 0, .int .u8 0, .int .u8 0, .int .u8 0, .bool false]) := (((hq1.other hne2).other hne2).other hne2)
  obtain ⟨p0, p1, p2, p3, p4, p5, p6, p7, p8, p9, lp⟩ := cells10 hp1
  obtain ⟨r0, r1, r2, r3, r4, r5, r6, r7, r8, r9, lr⟩ := cells10 hq1
  have zp := hp1.frozen
  have zq := hq1.frozen
  have HL1 := hide hl; clear hl hp1 hq1 ho1; go_wp2
  refine hK.out _ _ ?_
  clear hK K
  refine chainL_nil ?_
  clear B0; go_wp2
  exact retDoc Tryz.results57 rfl rfl HQ1.out ⟨A1, cap1, d.N, d.ln, d.cn, d.H, d.lh, d.ch⟩ HD1.out HB1.out (by omega)
 ·have hq : ((e.g.row : Int) == (R : Int) - 1) = false := by simp; omega
  have HF : Hid (feedG e.g C (blankP e.pen) = { e.g with row := e.g.row + 1 }) := by unfold Hid feedG; rw [HLen.out, if_neg hl0]
  have HB1 : Hid (Below w.heap.size w ((w.alloc (.cells #[.slice d.A R d.cap, .int .i64 ((e.g.row : Int) + 1), .int .i64 e.g.col, .int .i64 e.p.st, .slice d.N d.ln d.cn, .slice d.H d.lh d.ch, .int .u8 e.pen.f, .int .u8 e.pen.g, .int .u8 e.pen.b, .bool e.wrap] 40)).alloc (.cells #[.slice d.A R d.cap, .int .i64 ((e.g.row : Int) + 1), .int .i64 e.g.col, .int .i64 e.p.st, .slice d.N d.ln d.cn, .slice d.H d.lh d.ch, .int .u8 e.pen.f, .int .u8 e.pen.g, .int .u8 e.pen.b, .bool e.wrap] 40))) := two_new _ _ _ _ _
  have HD1 : Hid (Doc ((w.alloc (.cells #[.slice d.A R d.cap, .int .i64 ((e.g.row : Int) + 1), .int .i64 e.g.col, .int .i64 e.p.st, .slice d.N d.ln d.cn, .slice d.H d.lh d.ch, .int .u8 e.pen.f, .int .u8 e.pen.g, .int .u8 e.pen.b, .bool e.wrap] 40)).alloc (.cells #[.slice d.A R d.cap, .int .i64 ((e.g.row : Int) + 1), .int .i64 e.g.col, .int .i64 e.p.st, .slice d.N d.ln d.cn, .slice d.H d.lh d.ch, .int .u8 e.pen.f, .int .u8 e.pen.g, .int .u8 e.pen.b, .bool e.wrap] 40)) d { e with g := feedG e.g C (blankP e.pen) }) := by unfold Hid; rw [HF.out]; exact (HDW.out.below HB1.out).as rfl rfl
  go_enter Tryz.func57, Tryz.ntmps57
  go_wp2
  exact retM Tryz.results57 rfl rfl (whole_snd w _ 40 [.slice d.A R d.cap, .int .i64 ((e.g.row : Int) + 1), .int .i64 e.g.col, .int .i64 e.p.st, .slice d.N d.ln d.cn, .slice d.H d.lh d.ch, .int .u8 e.pen.f, .int .u8 e.pen.g, .int .u8 e.pen.b, .bool e.wrap]) ⟨d, by rw [HF.out]; rfl, HD1.out, HB1.out⟩
end
end
end Go.Proofs.YtkijclgbpbhglaaGreatDoor
