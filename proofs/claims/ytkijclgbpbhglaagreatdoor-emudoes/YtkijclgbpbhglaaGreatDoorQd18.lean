/-
  Contracts and plain mathematics of PRef, EMem, PSame, PLaw, EMath3, GRef.
-/
import Derived.Test.YtkijclgbpbhglaaGreatDoorQd10
import Derived.Test.YtkijclgbpbhglaaGreatDoorQd5
import Derived.Test.YtkijclgbpbhglaaGreatDoorQd2
import Derived.Test.YtkijclgbpbhglaaGreatDoorQd15
import Derived.Test.YtkijclgbpbhglaaGreatDoorQd17
import Derived.Test.YtkijclgbpbhglaaGreatDoorQd9
import Derived.Test.YtkijclgbpbhglaaGreatDoorQd13
import Derived.Test.YtkijclgbpbhglaaGreatDoorQd11
namespace Go.Proofs.YtkijclgbpbhglaaGreatDoor
set_option maxRecDepth 100000
set_option linter.unusedVariables false
set_option maxHeartbeats 8000000
section
open Go.ChangeShapes Go.WideShapes Go.ChangeAt Go.RowKit
def CutPostT (b : List Int) (w : World) (e : Ending) (w' : World) : Prop :=
 ∃ v A n c, e = .returned (.tuple #[v, .slice A n c]) ∧ Own 3 .i64 w.heap.size w w' v (cut b).1 ∧ IntsT 0 5 .u8 w' A (cut b).2 ∧ (cut b).2.length = n ∧ n ≤ c ∧ (A = none → c = 0)
theorem cutT_any (A : Option Addr) (n c : Nat) (b : List Int) (w : World) (hb : IntsT 0 5 .u8 w A b) (hn : b.length = n) (hc : n ≤ c) (hA : A = none → c = 0) (hcm : c ≤ maxLen) (hl : n ≤ 1000000) (by_ : Byte b) :
  Calls Tryz.prog 139 #[.slice A n c] w (CutPostT b w) := by
 unfold maxLen at hcm
 have HN := hide hn; have HA := hide hA; clear hn hA
 go_enter Tryz.func139, Tryz.ntmps139
 go_wp2
 go_loopw [0, 4, 5, 6] (fun s v _ _ wr => ∃ (A1 : Option Addr) (m c1 : Nat) (x acc : List Int), s = .slice A1 m c1 ∧ IntsT 0 5 .u8 w A1 x ∧ x.length = m ∧ m ≤ c1 ∧ (A1 = none → c1 = 0) ∧ c1 ≤ 9223372036854775807 ∧ Byte x ∧ acc.length + m ≤ n ∧
   (cut b).1 = acc ++ (cut x).1 ∧ (cut b).2 = (cut x).2 ∧ Own 3 .i64 w.heap.size w wr v acc) (fun s _ _ _ _ => lenOf s)
 case atStart => exact ⟨A, n, c, b, [], rfl, hb, HN.out, hc, HA.out, by omega, by_, by simp, by simp, rfl, Own.start (Nat.le_refl _)⟩
 case round =>
  obtain ⟨A1, m, c1, x, acc, rfl, hx, hm, hmc, hA1, hc1, bx, hacc, he1, he2, hown⟩ := hrel
  have HM := hide hm; have HA1 := hide hA1; have HE1 := hide he1; have HE2 := hide he2; clear hm hA1 he1 he2
  by_cases h0 : 0 < m
  ·have hle := first_le x
   rw [HM.out] at hle
   have hrg := first_range x bx
   have hown0 := hown
   obtain ⟨r, q, hrq⟩ : ∃ r q, first x = (r, q) := ⟨_, _, rfl⟩
   rw [hrq] at hle hrg
   obtain ⟨hr0, hr1⟩ := hrg
   have HRQ := hide hrq; clear hrq
   simp only at hle hr0 hr1
   by_cases hz : q = 0
   ·subst hz
    have HC : Hid (cut x = ([], x)) := cut_held (by rw [HRQ.out])
    go_wp2_with fail
    refine (rfirst_any A1 m c1 x wr (hx.below hown.bel (Nat.zero_le _)).ints HM.out hmc (by omega) bx).mono ?_
    rintro e w1 ⟨rfl, hb1⟩
    rw [HRQ.out]
    go_wp2; go_ret2
    refine ⟨_, A1, m, c1, rfl, ?_, ?_, ?_, hmc, HA1.out⟩
    ·rw [HE1.out, HC.out, List.append_nil]; exact hown.later hb1
    ·rw [HE2.out, HC.out]; exact hx.below ((hown.later hb1).bel) (Nat.zero_le _)
    ·rw [HE2.out, HC.out]; exact HM.out
   ·have HC : Hid (cut x = (r :: (cut (x.drop q)).1, (cut (x.drop q)).2)) := by
     have := cut_step (b := x) (by rw [HRQ.out]; exact hz)
     rw [HRQ.out] at this; exact this
    have hz' : ((q : Int) == 0) = false := by simp; omega
    have q1 : (0 : Int) ≤ (q : Int) := by omega
    have q2 : (q : Int) ≤ (m : Int) := by omega
    go_wp2_with fail
    refine (rfirst_any A1 m c1 x wr (hx.below hown.bel (Nat.zero_le _)).ints HM.out hmc (by omega) bx).mono ?_
    rintro e w1 ⟨rfl, hb1⟩
    rw [HRQ.out]
    have hown1 := hown.later hb1
    go_wp2_with (at_builtin; refine wpList_push elemInts rfl _ _ rfl rfl rfl hown1 (by omega) (by omega) ?_; intro v' w2 hown2)
    go_roundw
    case rel =>
     refine ⟨_, m - q, c1 - q, x.drop q, acc ++ [r], rfl, hx.cut q c1 (by rw [HM.out]; exact hmc), by rw [List.length_drop, HM.out], by omega, cut_nil_ HA1.out, by omega, bx.drop q, ?_, ?_, ?_, hown2⟩
     ·rw [List.length_append]; simp only [List.length_cons, List.length_nil]; omega
     ·rw [HE1.out, HC.out]; simp
     ·rw [HE2.out, HC.out]
    case measure => simp [lenOf]; omega
  ·have hm0 : m = 0 := by omega
   have HX : Hid (x = []) := by unfold Hid; exact List.eq_nil_of_length_eq_zero (by rw [HM.out]; exact hm0)
   clear hm0
   have HC : Hid (cut x = ([], [])) := by unfold Hid; rw [HX.out]; exact cut_nil
   have hgt : decide ((0 : Int) < (m : Int)) = false := by simp; omega
   go_wp2; go_ret2
   refine ⟨_, none, 0, 0, rfl, ?_, .inl ?_, ?_, Nat.le_refl _, fun _ => rfl⟩
   ·rw [HE1.out, HC.out, List.append_nil]; exact hown
   ·rw [HE2.out, HC.out]
   ·rw [HE2.out, HC.out]; rfl
theorem stays_put3 {t t' : TypeId} {w : World} {q : Nat} {y0 y1 y2 : Value} (hw : Whole w q t' [y0, y1, y2]) (ht : t ≠ t') (x0 x1 x2 : Value) : Stays t w (((w.setCell ⟨q, 0, none⟩ x0).setCell ⟨q, 1, none⟩ x1).setCell ⟨q, 2, none⟩ x2) :=
 ((Stays.put hw ht).trans (Stays.put (hw.put 0 x0) ht)).trans (Stays.put ((hw.put 0 x0).put 1 x1) ht)
theorem retP2 {R : Ending → World → Prop} {a : Act} {w : World} {fn : Func} {s u : Nat} {q : Nat} {x0 x1 x2 v : Value} (hr : fn.results = #[.cell s 36, .tmp u]) (h4 : a.tmps.getD s undef = .pointer (some ⟨q, 0, none⟩)) (h5 : a.tmps.getD u undef = v) (hd : a.defers = [])
  (hw : Whole w q 36 [x0, x1, x2]) (hR : R (.returned (.tuple #[.agg #[x0, x1, x2], v])) w) : bodyPost Tryz.prog fn R .ret a w := by
 have c0 : w.cell? ⟨q, 0, none⟩ = some x0 := hw.cell 0
 have c1 : w.cell? ⟨q, 1, none⟩ = some x1 := hw.cell 1
 have c2 : w.cell? ⟨q, 2, none⟩ = some x2 := hw.cell 2
 clear hw
 rw [Array.getD_eq_getD_getElem?] at h4 h5
 exact bodyPost_ret (v := .tuple #[.agg #[x0, x1, x2], v]) (by simp [results, hr, h4, h5, c0, c1, c2, go_sem]) hd hR
structure Dp (w : World) (p : Ps) (A : Option Addr) (ln c : Nat) (A' : Option Addr) (lh c' : Nat) : Prop where
 n : IntsT 0 3 .i64 w A p.n
 h : IntsT 0 5 .u8 w A' p.h
 nl : p.n.length = ln
 hl : p.h.length = lh
 c0 : A = none → c = 0
 c1 : ln ≤ c
 c2 : c ≤ maxLen
 d0 : A' = none → c' = 0
structure Evo (w : World) (es : List Ev) (A : Option Addr) (n c : Nat) : Prop where
 e : Evs 0 60 .i64 w A es
 nl : es.length = n
 c0 : A = none → c = 0
section
variable {w w' : World} {p : Ps} {A A' : Option Addr} {ln c lh c' : Nat} {es : List Ev}
theorem Dp.keep (h : Dp w p A ln c A' lh c') (h1 : Stays 3 w w') (h2 : Stays 5 w w') : Dp w' p A ln c A' lh c' := ⟨h.n.keep (fun _ q => absurd q (by omega)) h1, h.h.keep (fun _ q => absurd q (by omega)) h2, h.nl, h.hl, h.c0, h.c1, h.c2, h.d0⟩
theorem Dp.below (h : Dp w p A ln c A' lh c') (hb : Below w.heap.size w w') : Dp w' p A ln c A' lh c' := h.keep (.of_below hb) (.of_below hb)
theorem Evo.keep (h : Evo w es A ln c) (h1 : Stays 3 w w') (h2 : Stays 60 w w') : Evo w' es A ln c := ⟨h.e.keep (fun _ q => absurd q (by omega)) h1 h2, h.nl, h.c0⟩
theorem Evo.below (h : Evo w es A ln c) (hb : Below w.heap.size w w') : Evo w' es A ln c := h.keep (.of_below hb) (.of_below hb)
theorem Evo.nil : Evo w [] none 0 0 := ⟨.nil, rfl, fun _ => rfl⟩
theorem OwnE.evo {B : Nat} {w0 : World} {v : Value} (h : OwnE 0 60 .i64 B w0 w v es) : ∃ A n c, v = .slice A n c ∧ Evo w es A n c := by
 obtain ⟨A, cap, e, hev, _, h0, _⟩ := h.form
 exact ⟨A, _, cap, e, hev, rfl, h0⟩
theorem Evs.one {C : Nat} {te : TypeId} {k : IntKind} {q : Nat} {kd r : Int} {N : Option Addr} {n : Nat} {ns : List Int} (h : Whole w q te [.int .i64 kd, .int k r, .slice N n c]) (hn : ns.length = n) (hi : IntsT C 3 .i64 w N ns) : Evs C te k w (some ⟨q, 0, none⟩) [⟨kd, r, ns⟩] := by
 subst hn
 refine ⟨[⟨⟨kd, r, ns⟩, N, c⟩], rfl, by intro x hx; simp at hx; subst hx; exact hi, .inr ⟨q, 0, rfl, .inr ⟨_, h⟩, fun j v hj => ?_⟩⟩
 rw [Nat.zero_add, h.cell]
 simpa [flatE, eaL] using hj
end
def DGave (w : World) (q : Ps) (es : List Ev) (e : Ending) (w' : World) : Prop := ∃ A ln c A' lh c' Ao no co, e = .returned (.tuple #[.agg #[.int .i64 q.st, .slice A ln c, .slice A' lh c'], .slice Ao no co]) ∧ Dp w' q A ln c A' lh c' ∧ Evo w' es Ao no co ∧ Below w.heap.size w w'
theorem rpfirst_any (A : Option Addr) (n c : Nat) (w : World) (hc : n ≤ c) (hm : c ≤ maxLen) : Calls Tryz.prog 141 #[.slice A n c] w fun e w' => e = .returned (.slice A (min n 8) c) ∧ w = w' := by
 unfold maxLen at hm
 by_cases h : n ≤ 8
 ·rw [Nat.min_eq_left h]
  have h8 : (n : Int) ≤ 8 := by omega
  go_enter Tryz.func141, Tryz.ntmps141
  go_wp2; go_ret
  exact ⟨rfl, rfl⟩
 ·rw [Nat.min_eq_right (by omega)]
  have h8 : (8 : Int) < (n : Int) := by omega
  have hc8 : (8 : Int) ≤ (c : Int) := by omega
  go_enter Tryz.func141, Tryz.ntmps141
  go_wp2; go_ret
  exact ⟨rfl, rfl⟩
theorem rpdigits_any (A : Option Addr) (n c : Nat) (ns : List Int) (w : World) (hi : Ints .i64 w A ns) (hn : ns.length = n) (hc : n ≤ c) (hcm : c ≤ maxLen) (hA : A = none → c = 0) (hk : NumOk ns) (hl : n ≤ 10000) (d : Int) (d0 : 0 ≤ d) (d9 : d ≤ 9) :
  Calls Tryz.prog 140 #[.slice A n c, .int .i64 d] w (Made 3 .i64 w (digN ns d)) := by
 unfold maxLen at hcm
 by_cases h0 : n = 0
 ·subst h0
  have E : Hid (digN ns d = [d]) := by unfold Hid digN; rw [if_pos (List.eq_nil_of_length_eq_zero hn)]
  clear hi hn
  go_enter Tryz.func140, Tryz.ntmps140
  go_wp2; go_ret
  exact ⟨_, rfl, by rw [E.out]; exact Own.lit w 3 .i64 [d] 1 rfl (by omega)⟩
 ·obtain ⟨m, rfl⟩ : ∃ m, n = m + 1 := ⟨n - 1, by omega⟩
  have hne : ns ≠ [] := by intro e; rw [e] at hn; simp at hn
  obtain ⟨b, off, rfl, hcell, hlt⟩ := hi.at (i := m) (by omega)
  obtain ⟨x, hx⟩ := exq (ns.getD m 0)
  have hr := hk _ (getD_mem ns m (by omega))
  have E : Hid (digN ns d = ns.take m ++ [digV x d]) := by unfold Hid digN; rw [if_neg hne, hn, Nat.add_sub_cancel, hx]
  rw [hx] at hcell hr
  have HT : Hid (Ints .i64 (w.alloc (.cells #[] 3)) (some ⟨b, off, none⟩) (ns.take m)) := (hi.take m).alloc _
  have HL : Hid ((ns.take m).length = m) := by unfold Hid; rw [List.length_take]; omega
  have hz : ((m : Int) + 1 == 0) = false := by simp; omega
  obtain ⟨x0, x1⟩ := hr
  have hmc : (m : Int) ≤ (c : Int) := by omega
  clear hi hn hx hne hk h0
  generalize ns.take m = ts at *
  rcases (by omega : x = -1 ∨ (0 ≤ x ∧ 10 * x + d ≤ 9999) ∨ (0 ≤ x ∧ 9999 < 10 * x + d)) with hx | ⟨hx, hy⟩ | ⟨hx, hy⟩
  ·subst hx
   have e : digV (-1) d = d := by unfold digV; simp; omega
   rw [e] at E
   have hy : d ≤ 9999 := by omega
   clear e
   go_enter Tryz.func140, Tryz.ntmps140
   go_wp2_with (at_builtin; refine stopw ?_)
   unfold Hid
   refine wpList_cat elemInts rfl _ _ rfl rfl rfl (Own.empty w 3 .i64) HT.out HL.out (fun h => by cases h) (by simp; omega) (by omega) ?_
   intro v1 w1 h1
   rw [List.nil_append] at h1
   go_wp2_with (at_builtin; refine stopw ?_)
   unfold Hid
   refine wpList_push elemInts rfl _ _ rfl rfl rfl h1 (by rw [HL.out]; omega) (by omega) ?_
   intro v2 w2 h2; go_wp2; go_ret
   exact ⟨_, rfl, by rw [E.out]; exact h2⟩
  ·have e : digV x d = 10 * x + d := by unfold digV; rw [if_neg (by omega : ¬ x < 0), if_neg (by omega)]
   rw [e] at E
   clear e
   go_enter Tryz.func140, Tryz.ntmps140
   go_wp2_with (at_builtin; refine stopw ?_)
   unfold Hid
   refine wpList_cat elemInts rfl _ _ rfl rfl rfl (Own.empty w 3 .i64) HT.out HL.out (fun h => by cases h) (by simp; omega) (by omega) ?_
   intro v1 w1 h1
   rw [List.nil_append] at h1
   go_wp2_with (at_builtin; refine stopw ?_)
   unfold Hid
   refine wpList_push elemInts rfl _ _ rfl rfl rfl h1 (by rw [HL.out]; omega) (by omega) ?_
   intro v2 w2 h2; go_wp2; go_ret
   exact ⟨_, rfl, by rw [E.out]; exact h2⟩
  ·have e : digV x d = 9999 := by unfold digV; rw [if_neg (by omega : ¬ x < 0), if_pos (by omega)]
   rw [e] at E
   clear e
   go_enter Tryz.func140, Tryz.ntmps140
   go_wp2_with (at_builtin; refine stopw ?_)
   unfold Hid
   refine wpList_cat elemInts rfl _ _ rfl rfl rfl (Own.empty w 3 .i64) HT.out HL.out (fun h => by cases h) (by simp; omega) (by omega) ?_
   intro v1 w1 h1
   rw [List.nil_append] at h1
   go_wp2_with (at_builtin; refine stopw ?_)
   unfold Hid
   refine wpList_push elemInts rfl _ _ rfl rfl rfl h1 (by rw [HL.out]; omega) (by omega) ?_
   intro v2 w2 h2; go_wp2; go_ret
   exact ⟨_, rfl, by rw [E.out]; exact h2⟩
structure Ch (xs : List Nat) (w w' : World) : Prop where
 os : w'.os = w.os
 tape : w'.tape = w.tape
 output : w'.output = w.output
 size : w.heap.size ≤ w'.heap.size
 block : ∀ i, i < w.heap.size → i ∉ xs → w'.heap[i]? = w.heap[i]?
section
variable {xs ys : List Nat} {w w' w'' : World}
theorem Ch.refl : Ch xs w w := ⟨rfl, rfl, rfl, Nat.le_refl _, fun _ _ _ => rfl⟩
theorem Ch.trans (h : Ch xs w w') (k : Ch ys w' w'') (hs : ∀ y ∈ ys, y ∈ xs ∨ w.heap.size ≤ y) : Ch xs w w'' :=
 ⟨k.os.trans h.os, k.tape.trans h.tape, k.output.trans h.output, Nat.le_trans h.size k.size, fun i hi hx => (k.block i (Nat.lt_of_lt_of_le hi h.size) (fun q => by rcases hs i q with q | q; exact hx q; omega)).trans (h.block i hi hx)⟩
theorem Ch.of_below (h : Below w.heap.size w w') : Ch xs w w' := ⟨h.os, h.tape, h.output, h.size, fun i hi _ => h.block i hi⟩
theorem Ch.thenB (h : Ch xs w w') (k : Below w'.heap.size w' w'') : Ch xs w w'' := h.trans (ys := []) (.of_below k) (by simp)
theorem Ch.of_trn {G L M : Nat} (h : Trn G L M w w') (h1 : G ∈ xs) (h2 : L ∈ xs) (h3 : M ∈ xs) : Ch xs w w' := ⟨h.os, h.tape, h.output, h.size, fun i hi hx => h.block i hi (fun q => hx (q ▸ h1)) (fun q => hx (q ▸ h2)) (fun q => hx (q ▸ h3))⟩
theorem Ch.of_only {g : Nat} (h : Only g w w') (h1 : g ∈ xs) : Ch xs w w' := ⟨h.os, h.tape, h.output, h.size, fun i hi hx => h.block i hi (by intro q; simp at q; exact hx (q ▸ h1))⟩
theorem Ch.of_fr {g : Nat} (h : Fr w.heap.size g w w') (h1 : g ∈ xs) : Ch xs w w' := ⟨h.os, h.tape, h.output, h.size, fun i hi hx => h.block i hi (fun q => hx (q ▸ h1))⟩
theorem Ch.put {g i : Nat} {u : Value} (h1 : g ∈ xs) : Ch xs w (w.setCell ⟨g, i, none⟩ u) := .of_only (Only.put i u) h1
theorem Ch.below {B : Nat} {a : World} (h : Ch xs w w') (hb : Below B a w) (hB : B ≤ w.heap.size) (hx : ∀ x ∈ xs, B ≤ x) : Below B a w' :=
 ⟨h.os.trans hb.os, h.tape.trans hb.tape, h.output.trans hb.output, Nat.le_trans hb.size h.size, fun i hi => (h.block i (by omega) (fun q => by have := hx i q; omega)).trans (hb.block i hi)⟩
theorem Ch.whole (h : Ch xs w w') {q : Nat} {t : TypeId} {l : List Value} (hw : Whole w q t l) (hq : q ∉ xs) : Whole w' q t l := hw.same (h.block q hw.lt hq)
theorem Ch.ints (h : Ch xs w w') {k : IntKind} {A : Option Addr} {zs : List Int} (hi : Ints k w A zs) (hA : ∀ a, A = some a → 0 < zs.length → a.block ∉ xs) : Ints k w' A zs := by
 rcases hi with hi | ⟨b, off, ha, hc⟩
 ·exact .inl hi
 ·refine .inr ⟨b, off, ha, fun i hi => ?_⟩
  have hlt := block_lt_of_cell (hc i hi)
  rw [← hc i hi]
  simp only [World.cell?, h.block b hlt (hA _ ha (by omega))]
end
structure Bl where
 E : Nat
 G : Nat
 M : Nat
 P : Nat
def Bl.l (b : Bl) (L : Nat) : List Nat := [b.E, b.G, L, b.M, b.P]
def emuL (b : Bl) (e : Em) : List Value := [.pointer (some ⟨b.G, 0, none⟩), .pointer (some ⟨b.P, 0, none⟩), .int .u8 e.pen.f, .int .u8 e.pen.g, .int .u8 e.pen.b, .bool e.wrap]
structure Emu (w : World) (b : Bl) (L R C : Nat) (e : Em) : Prop where
 top : Whole w b.E 95 (emuL b e)
 grd : Grd w b.G L b.M R C e.g
 par : Pr w b.P e.p
 ok : EOk e R C
 sp : Spans w
section
variable {w w' w1 : World} {b : Bl} {L R C : Nat} {e e' : Em}
theorem Emu.six (h : Emu w b L R C e) : w.cell? ⟨b.E, 0, none⟩ = some (.pointer (some ⟨b.G, 0, none⟩)) ∧ w.cell? ⟨b.E, 1, none⟩ = some (.pointer (some ⟨b.P, 0, none⟩)) ∧ w.cell? ⟨b.E, 2, none⟩ = some (.int .u8 e.pen.f) ∧ w.cell? ⟨b.E, 3, none⟩ = some (.int .u8 e.pen.g) ∧ w.cell? ⟨b.E, 4, none⟩ = some (.int .u8 e.pen.b) ∧ w.cell? ⟨b.E, 5, none⟩ = some (.bool e.wrap) ∧ b.E < w.heap.size :=
 ⟨h.top.cell 0, h.top.cell 1, h.top.cell 2, h.top.cell 3, h.top.cell 4, h.top.cell 5, h.top.lt⟩
theorem Emu.lts (h : Emu w b L R C e) : b.E < w.heap.size ∧ b.G < w.heap.size ∧ L < w.heap.size ∧ b.M < w.heap.size ∧ b.P < w.heap.size := ⟨h.top.lt, h.grd.ltG, h.grd.ltL, h.grd.ltM, h.par.lt⟩
theorem Emu.lt (h : Emu w b L R C e) : ∀ x ∈ b.l L, x < w.heap.size := by
 obtain ⟨h1, h2, h3, h4, h5⟩ := h.lts
 intro x hx
 simp only [Bl.l, List.mem_cons, List.not_mem_nil, or_false] at hx
 omega
theorem Emu.other (h : Emu w b L R C e) {q : Nat} {t : TypeId} {l : List Value} (hw : Whole w q t l) (ht : t ≠ 95 ∧ t ≠ 113 ∧ t ≠ 97 ∧ t ≠ 73 ∧ t ≠ 93) : q ∉ b.l L := by
 obtain ⟨cap, ps, room, more, hg⟩ := h.grd
 obtain ⟨lp, hp⟩ := h.par.whole
 intro q'
 simp only [Bl.l, List.mem_cons, List.not_mem_nil, or_false] at q'
 rcases q' with rfl | rfl | rfl | rfl | rfl
 ·exact hw.ne h.top ht.1 rfl
 ·exact hw.ne hg.top ht.2.1 rfl
 ·exact hw.ne hg.lines ht.2.2.1 rfl
 ·exact hw.ne hg.piece ht.2.2.2.1 rfl
 ·exact hw.ne hp ht.2.2.2.2 rfl
theorem Emu.stays (h : Emu w b L R C e) (hc : Ch (b.l L) w w') {t : TypeId} (ht : t ≠ 95 ∧ t ≠ 113 ∧ t ≠ 97 ∧ t ≠ 73 ∧ t ≠ 93) : Stays t w w' := by
 intro q cur hq
 have hw : Whole w q t cur.toList := by unfold Whole; simpa using hq
 exact hc.block q hw.lt (h.other hw ht)
theorem Emu.nes (h : Emu w b L R C e) : (b.E ≠ b.G ∧ b.E ≠ L ∧ b.E ≠ b.M ∧ b.E ≠ b.P) ∧ (b.P ≠ b.G ∧ b.P ≠ L ∧ b.P ≠ b.M) := by
 obtain ⟨cap, ps, room, more, hg⟩ := h.grd
 obtain ⟨lp, hp⟩ := h.par.whole
 exact ⟨⟨h.top.ne hg.top (by decide), h.top.ne hg.lines (by decide), h.top.ne hg.piece (by decide), h.top.ne hp (by decide)⟩, hp.ne hg.top (by decide), hp.ne hg.lines (by decide), hp.ne hg.piece (by decide)⟩
theorem Grd.same {G M : Nat} {g : Gd} (h : Grd w G L M R C g) (hG : w'.heap[G]? = w.heap[G]?) (hL : w'.heap[L]? = w.heap[L]?) (hM : w'.heap[M]? = w.heap[M]?) : Grd w' G L M R C g := by
 obtain ⟨cap, ps, room, more, hg⟩ := h
 exact ⟨cap, ps, room, more, hg.same hG hL hM⟩
theorem Spans.ch {xs : List Nat} (hS : Spans w) (hc : Ch xs w w') (h0 : 0 ∉ xs) : Spans w' := by
 intro j v hv
 have := hS j v hv
 unfold World.cell? at this ⊢
 simp only at this ⊢
 rw [hc.block 0 hS.size h0]
 exact this
theorem Emu.far {xs : List Nat} (h : Emu w b L R C e) (hc : Ch xs w w') (hx : ∀ x ∈ b.l L, x ∉ xs) (h0 : 0 ∉ xs) : Emu w' b L R C e := by
 obtain ⟨l1, l2, l3, l4, l5⟩ := h.lts
 have k : ∀ x, x ∈ b.l L → x < w.heap.size → w'.heap[x]? = w.heap[x]? := fun x hx' hl => hc.block x hl (hx x hx')
 exact ⟨h.top.same (k _ (by simp [Bl.l]) l1), h.grd.same (k _ (by simp [Bl.l]) l2) (k _ (by simp [Bl.l]) l3) (k _ (by simp [Bl.l]) l4), h.par.same (k _ (by simp [Bl.l]) l5), h.ok, h.sp.ch hc h0⟩
theorem Emu.later (h : Emu w b L R C e) (hb : Below w.heap.size w w') : Emu w' b L R C e := h.far (xs := []) (.of_below hb) (by simp) (by simp)
theorem Emu.drew (h : Emu w b L R C e) : Emu w.drew b L R C e := h.later bd1
theorem Emu.no0 (h : Emu w b L R C e) : 0 ∉ b.l L := by
 have e0 : w.cell? ⟨0, 0, none⟩ = some (.int .i32 0) := h.sp 0 (.int .i32 0) rfl
 have e2 : ∃ x, w.cell? ⟨0, 2, none⟩ = some (.int .i64 x) := ⟨_, h.sp 2 _ rfl⟩
 have hR := h.ok.g.r1
 obtain ⟨cap, ps, room, more, hg⟩ := h.grd
 intro q'
 simp only [Bl.l, List.mem_cons, List.not_mem_nil, or_false] at q'
 rcases q' with q | q | q | q | q
 ·have := h.top.cell 0
  rw [← q, e0] at this
  cases this
 ·have := hg.top.cell 0
  rw [← q, e0] at this
  cases this
 ·have := hg.row (i := 0) (by omega)
  rw [← q, e0] at this
  cases this
 ·obtain ⟨x, e2⟩ := e2
  rw [q, hg.piece.cell] at e2
  have hm := List.mem_of_getElem? e2
  unfold flatC at hm
  obtain ⟨c, _, hc⟩ := List.mem_flatMap.1 hm
  simp [cellL] at hc
 ·obtain ⟨l, ha, b4, hb4, hw, _⟩ := h.par
  have := hw.cell 0
  rw [← q, e0] at this
  match b4, hb4 with
  | x :: _, _ => simp at this
end
structure At (b : Bl) (w : World) (L : Nat) (w' : World) (L' R C : Nat) (e' : Em) : Prop where
 near : L' = L ∨ w.heap.size ≤ L'
 emu : Emu w' b L' R C e'
 ch : Ch (b.l L) w w'
section
variable {w w' w1 w2 : World} {b : Bl} {L L' L1 L2 R C : Nat} {e e' e1 e2 : Em}
theorem near_mem (h : L' = L ∨ w.heap.size ≤ L') : ∀ y ∈ b.l L', y ∈ b.l L ∨ w.heap.size ≤ y := by
 intro y hy
 simp only [Bl.l, List.mem_cons, List.not_mem_nil, or_false] at hy ⊢
 omega
theorem At.refl (h : Emu w b L R C e) : At b w L w L R C e := ⟨.inl rfl, h, .refl⟩
theorem At.trans (h : At b w L w1 L1 R C e1) (k : At b w1 L1 w2 L2 R C e2) : At b w L w2 L2 R C e2 := ⟨by have := h.near; have := k.near; have := h.ch.size; omega, k.emu, h.ch.trans k.ch (near_mem h.near)⟩
theorem At.later (h : At b w L w1 L1 R C e1) (hb : Below w1.heap.size w1 w2) : At b w L w2 L1 R C e1 := ⟨h.near, h.emu.later hb, h.ch.thenB hb⟩
theorem At.drew (h : At b w L w1 L1 R C e1) : At b w L w1.drew L1 R C e1 := h.later bd1
theorem At.first (hb : Below w.heap.size w w1) (h : At b w1 L w2 L1 R C e1) : At b w L w2 L1 R C e1 := ⟨by have := h.near; have := hb.size; omega, h.emu, (Ch.of_below hb).trans h.ch (fun y hy => .inl hy)⟩
theorem At.eq (h : At b w L w1 L1 R C e1) (he : e1 = e2) : At b w L w1 L1 R C e2 := he ▸ h
theorem Emu.trn (h : Emu w b L R C e) {g' : Gd} (hg : Grd w' b.G L' b.M R C g') (ht : Trn b.G L b.M w w') (hL : L' = L ∨ w.heap.size ≤ L') (hok : GOk g' R C) : At b w L w' L' R C { e with g := g' } := by
 have hc : Ch (b.l L) w w' := .of_trn ht (by simp [Bl.l]) (by simp [Bl.l]) (by simp [Bl.l])
 obtain ⟨⟨n1, n2, n3, n4⟩, n5, n6, n7⟩ := h.nes
 exact ⟨hL, ⟨h.top.same (ht.block _ h.top.lt n1 n2 n3), hg, h.par.same (ht.block _ h.par.lt n5 n6 n7), ⟨hok, h.ok.p, h.ok.pen⟩, h.sp.ch hc h.no0⟩, hc⟩
theorem Emu.trn0 (h : Emu w b L R C e) {g' : Gd} (hg : Grd w' b.G L b.M R C g') (ht : Trn b.G L b.M w w') (hok : GOk g' R C) : At b w L w' L R C { e with g := g' } := h.trn hg ht (.inl rfl) hok
theorem Emu.fr (h : Emu w b L R C e) {p' : Ps} (hp : Pr w' b.P p') (hf : Fr w.heap.size b.P w w') (hok : PsOk p') : At b w L w' L R C (setP e p') := by
 have hc : Ch (b.l L) w w' := .of_fr hf (by simp [Bl.l])
 obtain ⟨⟨n1, n2, n3, n4⟩, n5, n6, n7⟩ := h.nes
 exact ⟨.inl rfl, ⟨h.top.same (hf.block _ h.top.lt n4), h.grd.same (hf.block _ h.grd.ltG (Ne.symm n5)) (hf.block _ h.grd.ltL (Ne.symm n6)) (hf.block _ h.grd.ltM (Ne.symm n7)), hp, ⟨h.ok.g, hok, h.ok.pen⟩, h.sp.ch hc h.no0⟩, hc⟩
theorem Emu.struct (h : Emu w b L R C e) {l : List Value} (hw : Whole w' b.E 95 l) (ho : Only b.E w w') {e' : Em} (hl : l = emuL b e') (hg : e'.g = e.g) (hp : e'.p = e.p) (hr : rightN e'.pen = true) : At b w L w' L R C e' := by
 have hc : Ch (b.l L) w w' := .of_only ho (by simp [Bl.l])
 obtain ⟨⟨n1, n2, n3, n4⟩, n5, n6, n7⟩ := h.nes
 have k : ∀ i, i < w.heap.size → b.E ≠ i → w'.heap[i]? = w.heap[i]? := fun i hi hne => ho.block i hi (by simp; exact Ne.symm hne)
 exact ⟨.inl rfl, ⟨hl ▸ hw, by rw [hg]; exact h.grd.same (k _ h.grd.ltG n1) (k _ h.grd.ltL n2) (k _ h.grd.ltM n3), by rw [hp]; exact h.par.same (k _ h.par.lt n4), ⟨by rw [hg]; exact h.ok.g, by rw [hp]; exact h.ok.p, hr⟩, h.sp.ch hc h.no0⟩, hc⟩
theorem Emu.wrap (h : Emu w b L R C e) (x : Bool) : At b w L (w.setCell ⟨b.E, 5, none⟩ (.bool x)) L R C { e with wrap := x } :=
 h.struct (h.top.put 5 _) (Only.put 5 _) rfl rfl rfl h.ok.pen
theorem Emu.pens (h : Emu w b L R C e) (p : Pn) (hp : rightN p = true) : At b w L (((w.setCell ⟨b.E, 2, none⟩ (.int .u8 p.f)).setCell ⟨b.E, 3, none⟩ (.int .u8 p.g)).setCell ⟨b.E, 4, none⟩ (.int .u8 p.b)) L R C { e with pen := p } :=
 h.struct (((h.top.put 2 _).put 3 _).put 4 _) (((Only.put 2 _).trans (Only.put 3 _)).trans (Only.put 4 _)) rfl rfl rfl hp
theorem Emu.keeps (h : Emu w b L R C e) (k : At b w L w' L' R C e') {q : Nat} {t : TypeId} {l : List Value} (hw : Whole w q t l) (ht : t ≠ 95 ∧ t ≠ 113 ∧ t ≠ 97 ∧ t ≠ 73 ∧ t ≠ 93) : Whole w' q t l := k.ch.whole hw (h.other hw ht)
end
def Low (B : Nat) (b : Bl) (L : Nat) : Prop := ∀ x ∈ b.l L, B ≤ x
section
variable {w w' : World} {b : Bl} {L L' R C B : Nat} {e e' : Em}
theorem Low.at (h : Low B b L) (k : At b w L w' L' R C e') (hB : B ≤ w.heap.size) : Low B b L' := by
 intro x hx
 rcases near_mem k.near x hx with q | q
 ·exact h x q
 ·omega
theorem IntsT.turn {k : IntKind} {A : Option Addr} {ns : List Int} {t : TypeId} (hi : IntsT B t k w A ns) (hm : Emu w b L R C e) (hc : Ch (b.l L) w w') (hl : Low B b L) (hB : B ≤ w.heap.size) (ht : t ≠ 95 ∧ t ≠ 113 ∧ t ≠ 97 ∧ t ≠ 73 ∧ t ≠ 93) : IntsT B t k w' A ns :=
 hi.keep (fun q hq => hc.block q (by omega) (fun hx => by have := hl q hx; omega)) (hm.stays hc ht)
theorem Evs.turn {k : IntKind} {A : Option Addr} {es : List Ev} {te : TypeId} (h : Evs B te k w A es) (hm : Emu w b L R C e) (hc : Ch (b.l L) w w') (hl : Low B b L) (hB : B ≤ w.heap.size) (ht : te ≠ 95 ∧ te ≠ 113 ∧ te ≠ 97 ∧ te ≠ 73 ∧ te ≠ 93) : Evs B te k w' A es :=
 h.keep (fun q hq => hc.block q (by omega) (fun hx => by have := hl q hx; omega)) (hm.stays hc (by decide)) (hm.stays hc ht)
end
structure Dv where
 A : Option Addr
 cap : Nat
 N : Option Addr
 ln : Nat
 cn : Nat
 H : Option Addr
 lh : Nat
 ch : Nat
def docL (d : Dv) (R : Nat) (e : Em) : List Value := [.slice d.A R d.cap, .int .i64 e.g.row, .int .i64 e.g.col, .int .i64 e.p.st, .slice d.N d.ln d.cn, .slice d.H d.lh d.ch, .int .u8 e.pen.f, .int .u8 e.pen.g, .int .u8 e.pen.b, .bool e.wrap]
structure Doc (w : World) (d : Dv) (e : Em) : Prop where
 lns : Lns w d.A e.g.ls
 dp : Dp w e.p d.N d.ln d.cn d.H d.lh d.ch
section
variable {w w' w1 : World} {d : Dv} {R C : Nat} {e : Em}
theorem Doc.keep (h : Doc w d e) (h1 : Stays 166 w w') (h2 : Stays 132 w w') (h3 : Stays 3 w w') (h5 : Stays 5 w w') : Doc w' d e := ⟨h.lns.keep h1 h2, h.dp.keep h3 h5⟩
theorem Doc.below (h : Doc w d e) (hb : Below w.heap.size w w') : Doc w' d e := h.keep (.of_below hb) (.of_below hb) (.of_below hb) (.of_below hb)
theorem Doc.turn {b : Bl} {L : Nat} {e' : Em} (h : Doc w d e) (hm : Emu w b L R C e') (hc : Ch (b.l L) w w') : Doc w' d e := h.keep (hm.stays hc (by decide)) (hm.stays hc (by decide)) (hm.stays hc (by decide)) (hm.stays hc (by decide))
end
def GaveM (R : Nat) (e : Em) (w : World) (x : Ending) (w' : World) : Prop := ∃ d, x = .returned (.agg (docL d R e).toArray) ∧ Doc w' d e ∧ Below w.heap.size w w'
theorem cells10 {w : World} {q : Nat} {t : TypeId} {x0 x1 x2 x3 x4 x5 x6 x7 x8 x9 : Value} (h : Whole w q t [x0, x1, x2, x3, x4, x5, x6, x7, x8, x9]) :
  w.cell? ⟨q, 0, none⟩ = some x0 ∧ w.cell? ⟨q, 1, none⟩ = some x1 ∧ w.cell? ⟨q, 2, none⟩ = some x2 ∧ w.cell? ⟨q, 3, none⟩ = some x3 ∧ w.cell? ⟨q, 4, none⟩ = some x4 ∧ w.cell? ⟨q, 5, none⟩ = some x5 ∧ w.cell? ⟨q, 6, none⟩ = some x6 ∧ w.cell? ⟨q, 7, none⟩ = some x7 ∧ w.cell? ⟨q, 8, none⟩ = some x8 ∧ w.cell? ⟨q, 9, none⟩ = some x9 ∧ q < w.heap.size :=
 ⟨h.cell 0, h.cell 1, h.cell 2, h.cell 3, h.cell 4, h.cell 5, h.cell 6, h.cell 7, h.cell 8, h.cell 9, h.lt⟩
theorem retM {R : Ending → World → Prop} {a : Act} {w : World} {fn : Func} {s : Nat} {q : Nat} {x0 x1 x2 x3 x4 x5 x6 x7 x8 x9 : Value} (hr : fn.results = #[.cell s 40]) (h4 : a.tmps.getD s undef = .pointer (some ⟨q, 0, none⟩)) (hd : a.defers = [])
  (hw : Whole w q 40 [x0, x1, x2, x3, x4, x5, x6, x7, x8, x9]) (hR : R (.returned (.agg #[x0, x1, x2, x3, x4, x5, x6, x7, x8, x9])) w) : bodyPost Tryz.prog fn R .ret a w := by
 obtain ⟨c0, c1, c2, c3, c4, c5, c6, c7, c8, c9, -⟩ := cells10 hw
 clear hw
 rw [Array.getD_eq_getD_getElem?] at h4
 exact bodyPost_ret (v := .agg #[x0, x1, x2, x3, x4, x5, x6, x7, x8, x9]) (by simp [results, hr, h4, c0, c1, c2, c3, c4, c5, c6, c7, c8, c9, go_sem]) hd hR
theorem Ev.same {a b : Ev} : a = b ↔ a.k = b.k ∧ a.r = b.r ∧ a.n = b.n := by
 cases a; cases b; simp
theorem retE {R : Ending → World → Prop} {a : Act} {w : World} {fn : Func} {s : Nat} {q : Nat} {x0 x1 x2 : Value} (hr : fn.results = #[.cell s 60]) (h4 : a.tmps.getD s undef = .pointer (some ⟨q, 0, none⟩)) (hd : a.defers = [])
  (hw : Whole w q 60 [x0, x1, x2]) (hR : R (.returned (.agg #[x0, x1, x2])) w) : bodyPost Tryz.prog fn R .ret a w := by
 have c0 : w.cell? ⟨q, 0, none⟩ = some x0 := hw.cell 0
 have c1 : w.cell? ⟨q, 1, none⟩ = some x1 := hw.cell 1
 have c2 : w.cell? ⟨q, 2, none⟩ = some x2 := hw.cell 2
 clear hw
 rw [Array.getD_eq_getD_getElem?] at h4
 exact bodyPost_ret (v := .agg #[x0, x1, x2]) (by simp [results, hr, h4, c0, c1, c2, go_sem]) hd hR
theorem lpof_any (k r : Int) (A : Option Addr) (n c : Nat) (w : World) (r0 : -2147483648 ≤ r) (r1 : r ≤ 2147483647) :
  Calls Tryz.prog 23 #[.agg #[.int .i64 k, .int .i32 r, .slice A n c]] w fun e w' => e = .returned (.agg #[.int .i64 k, .int .i64 r, .slice A n c]) ∧ Below w.heap.size w w' := by
 have HB : Hid (Below w.heap.size w ((w.alloc (.cells #[.int .i64 k, .int .i32 r, .slice A n c] 56)).alloc (.cells #[.int .i64 k, .int .i64 r, .slice A n c] 60))) := ((Below.refl _ _).alloc (Nat.le_refl _) _).alloc (by simp) _
 go_enter Tryz.func23, Tryz.ntmps23
 go_wp2
 exact retE Tryz.results23 rfl rfl (whole_snd w _ 60 [.int .i64 k, .int .i64 r, .slice A n c]) ⟨rfl, HB.out⟩
def numP (ns : List Int) (at_ none_ : Int) : Int := if at_ < 0 ∨ (ns.length : Int) ≤ at_ ∨ ns.getD at_.toNat 0 = -1 then none_ else ns.getD at_.toNat 0
end
theorem near_in {k : Nat} {n : Nat} {x : Int} (h : x = (k : Int)) (hk : k < n) : nearN x n = k := by subst h; exact nearN_self k n hk
section
variable {g : Gd} {R C : Nat}
theorem move_row (h : GOk g R C) (c : Int) : moveG g (g.row : Int) c C = ⟨g.ls, g.row, nearN c C⟩ := by
 unfold moveG
 rw [h.len, nearN_self _ _ h.row]
theorem move_0 (h : GOk g R C) : moveG g (g.row : Int) 0 C = { g with col := 0 } := by
 rw [move_row h, near_in (k := 0) (x := 0) rfl (by have := h.c1; omega)]
theorem feed_low (h : GOk g R C) (hr : ¬ g.row + 1 = R) (bp : Pn) : feedG g C bp = moveG g ((g.row : Int) + 1) (g.col : Int) C := by
 have h1 := h.row
 unfold feedG moveG
 rw [h.len, if_neg hr, near_in (k := g.row + 1) (by omega) (by omega), nearN_self _ _ h.col]
theorem feed_last (h : GOk g R C) (hr : g.row + 1 = R) (bp : Pn) : feedG g C bp = scrollG g C 1 bp := by
 unfold feedG
 rw [h.len, if_pos hr]
def ordN (x : Int) : Int := min (max x 1) 512
theorem ordN_range (x : Int) : 1 ≤ ordN x ∧ ordN x ≤ 512 := by unfold ordN; omega
theorem near_up (k n : Nat) (x : Int) (hk : k < n) (hn : n ≤ 512) : nearN ((k : Int) + -ordN x) n = nearN ((k : Int) - oneN x) n := by unfold nearN ordN oneN; omega
theorem near_dn (k n : Nat) (x : Int) (hk : k < n) (hn : n ≤ 512) : nearN ((k : Int) + ordN x) n = nearN ((k : Int) + oneN x) n := by unfold nearN ordN oneN; omega
theorem near_at (n : Nat) (x : Int) (hn : n ≤ 512) : nearN (ordN x - 1) n = nearN (oneN x - 1) n := by unfold nearN ordN oneN; omega
theorem move_up (h : GOk g R C) (x : Int) : moveG g ((g.row : Int) + -ordN x) ((g.col : Int) + 0) C = moveG g ((g.row : Int) - oneN x) (g.col : Int) C := by
 unfold moveG
 rw [h.len, near_up _ _ _ h.row h.r2, Int.add_zero]
theorem move_dn (h : GOk g R C) (x : Int) : moveG g ((g.row : Int) + ordN x) ((g.col : Int) + 0) C = moveG g ((g.row : Int) + oneN x) (g.col : Int) C := by
 unfold moveG
 rw [h.len, near_dn _ _ _ h.row h.r2, Int.add_zero]
theorem move_rt (h : GOk g R C) (x : Int) : moveG g ((g.row : Int) + 0) ((g.col : Int) + ordN x) C = moveG g (g.row : Int) ((g.col : Int) + oneN x) C := by
 unfold moveG
 rw [h.len, near_dn _ _ _ h.col h.c2, Int.add_zero]
theorem move_lf (h : GOk g R C) (x : Int) : moveG g ((g.row : Int) + 0) ((g.col : Int) + -ordN x) C = moveG g (g.row : Int) ((g.col : Int) - oneN x) C := by
 unfold moveG
 rw [h.len, near_up _ _ _ h.col h.c2, Int.add_zero]
theorem move_at (h : GOk g R C) (x y : Int) : moveG g (ordN x - 1) (ordN y - 1) C = moveG g (oneN x - 1) (oneN y - 1) C := by
 unfold moveG
 rw [h.len, near_at _ _ h.r2, near_at _ _ h.c2]
end
theorem numP_nAt (ns : List Int) (i : Nat) (d : Int) : numP ns (i : Int) d = nAt ns i d := by
 unfold numP nAt
 rw [Int.toNat_natCast]
 by_cases h : ns.length ≤ i ∨ ns.getD i 0 = -1
 ·rw [if_pos h, if_pos (by omega)]
 ·rw [if_neg h, if_neg (by omega)]
theorem ready_is {e : Em} {R C : Nat} (h : EOk e R C) (n : Int) (hn : e.wrap = true ∨ (C : Int) - (e.g.col : Int) < n) : readyG e C n = feedG (moveG e.g (e.g.row : Int) 0 C) C (blankP e.pen) := by
 unfold readyG
 rw [if_pos hn, move_0 h.g]
theorem ready_no {e : Em} {C : Nat} (n : Int) (hw : e.wrap = false) (hn : n ≤ (C : Int) - (e.g.col : Int)) : readyG e C n = e.g := by
 unfold readyG
 rw [if_neg (by rw [hw]; simp; omega)]
theorem ready_fits {e : Em} {R C : Nat} (h : EOk e R C) (n : Int) (hn : n ≤ (C : Int)) : ((readyG e C n).col : Int) + n ≤ (C : Int) := by
 unfold readyG
 split
 ·have : (feedG { e.g with col := 0 } C (blankP e.pen)).col = 0 := by unfold feedG scrollG; split <;> (try split) <;> rfl
  rw [this]
  omega
 ·omega
theorem put_row (g : Gd) (r c : Int) (x : Cel) : (putG g r c x).row = g.row ∧ (putG g r c x).col = g.col ∧ (putG g r c x).ls.length = g.ls.length := by
 unfold putG
 split <;> simp
theorem show_is {e : Em} {R C : Nat} (h : EOk e R C) (r : Int) (h0 : ¬ wOf r = 0) (h1 : ¬ (wOf r < 1 ∨ (C : Int) < wOf r)) (g1 : Gd) (hg : readyG e C (wOf r) = g1) :
  typedE e C r = { e with g := moveG (putG g1 g1.row g1.col (ofC r e.pen).1) ((g1.row : Int) + 0) ((g1.col : Int) + wOf r) C, wrap := decide (wOf r = (C : Int) - (g1.col : Int)) } := by
 have hf := ready_fits h (wOf r) (by omega)
 have hok := readyG_ok h (wOf r)
 rw [hg] at hf hok
 have hp := put_row g1 g1.row g1.col (ofC r e.pen).1
 have hr := hok.row
 unfold typedE
 rw [if_neg h0, if_neg h1, hg]
 unfold moveG
 rw [Int.add_zero, hp.2.2, hok.len, nearN_self _ _ hr]
 have c1 := hok.c1
 by_cases hq : (C : Int) ≤ (g1.col : Int) + wOf r
 ·rw [if_pos hq, decide_eq_true (by omega), (by unfold nearN; omega : nearN ((g1.col : Int) + wOf r) C = C - 1)]
  show (⟨⟨_, (putG g1 g1.row g1.col (ofC r e.pen).1).row, _⟩, _, _, _⟩ : Em) = _
  rw [hp.1]
 ·rw [if_neg hq, decide_eq_false (by omega), near_in (k := g1.col + (wOf r).toNat) (by omega) (by omega)]
  show (⟨⟨_, (putG g1 g1.row g1.col (ofC r e.pen).1).row, _⟩, _, _, _⟩ : Em) = _
  rw [hp.1]
def eraseFrom (g : Gd) (C : Nat) (bp : Pn) (a : Nat) : Nat → Gd
 | 0 => g
 | n + 1 => eraseG (eraseFrom g C bp a n) ((a + n : Nat) : Int) 0 (C : Int) bp
theorem erase_row (g : Gd) (r x y : Int) (p : Pn) : (eraseG g r x y p).row = g.row ∧ (eraseG g r x y p).col = g.col := by
 unfold eraseG
 split <;> simp
theorem eraseTo_no (g : Gd) (C : Nat) (k : Int) (bp : Pn) : ∀ n, (∀ r, r < n → allRow k g.row r = false) → eraseTo g C k bp n = g := by
 intro n
 induction n with
 | zero => intro _; rfl
 | succ n ih =>
  intro h; unfold eraseTo
  rw [h n (by omega), if_neg (by simp)]
  exact ih (fun r hr => h r (by omega))
theorem eraseTo_on (g : Gd) (C : Nat) (k : Int) (bp : Pn) (a : Nat) (h0 : ∀ r, r < a → allRow k g.row r = false) : ∀ n, (∀ r, a ≤ r → r < a + n → allRow k g.row r = true) → eraseTo g C k bp (a + n) = eraseFrom g C bp a n := by
 intro n
 induction n with
 | zero => intro _; exact eraseTo_no g C k bp a h0
 | succ n ih =>
  intro h
  rw [← Nat.add_assoc]
  unfold eraseTo eraseFrom
  rw [h (a + n) (by omega) (by omega), if_pos rfl, ih (fun r h1 h2 => h r h1 (by omega))]
theorem eraseTo_off (g : Gd) (C : Nat) (k : Int) (bp : Pn) (a : Nat) : ∀ n, (∀ r, a ≤ r → r < a + n → allRow k g.row r = false) → eraseTo g C k bp (a + n) = eraseTo g C k bp a := by
 intro n
 induction n with
 | zero => intro _; rfl
 | succ n ih =>
  intro h
  rw [← Nat.add_assoc]
  conv => lhs; unfold eraseTo
  rw [h (a + n) (by omega) (by omega), if_neg (by simp)]
  exact ih (fun r h1 h2 => h r h1 (by omega))
section
variable {g : Gd} {R C : Nat}
theorem rows_0 (h : GOk g R C) (bp : Pn) : eraseTo g C 0 bp g.ls.length = eraseFrom g C bp (g.row + 1) (R - (g.row + 1)) := by
 have hr := h.row
 rw [h.len]
 conv => lhs; rw [show R = g.row + 1 + (R - (g.row + 1)) by omega]
 exact eraseTo_on g C 0 bp (g.row + 1) (fun r hr => by unfold allRow; simp; omega) _ (fun r h1 h2 => by unfold allRow; simp; omega)
theorem rows_1 (h : GOk g R C) (bp : Pn) : eraseTo g C 1 bp g.ls.length = eraseFrom g C bp 0 g.row := by
 have hr := h.row
 rw [h.len]
 conv => lhs; rw [show R = g.row + (R - g.row) by omega]
 rw [eraseTo_off g C 1 bp g.row _ (fun r h1 h2 => by unfold allRow; simp; omega)]
 have := eraseTo_on g C 1 bp 0 (fun r hr => by omega) g.row (fun r h1 h2 => by unfold allRow; simp; omega)
 rwa [Nat.zero_add] at this
theorem rows_2 (h : GOk g R C) (bp : Pn) : eraseTo g C 2 bp g.ls.length = eraseFrom g C bp 0 R := by
 rw [h.len]
 have := eraseTo_on g C 2 bp 0 (fun r hr => by omega) R (fun r h1 h2 => by unfold allRow; simp)
 rwa [Nat.zero_add] at this
theorem rows_no (k : Int) (h0 : ¬ k = 0) (h1 : ¬ k = 1) (h2 : ¬ k = 2) (bp : Pn) : eraseTo g C k bp g.ls.length = g :=
 eraseTo_no g C k bp _ (fun r _ => by unfold allRow; simp [h0, h1, h2])
end
section
open Go.ChangeShapes Go.WideShapes Go.ChangeAt Go.RowKit
def sizeB (r c : Int) : Bool := decide (sizeN r c)
theorem rsize_any (r c : Int) (w : World) : Calls Tryz.prog 10 #[.int .i64 r, .int .i64 c] w fun e w' => e = .returned (.bool (sizeB r c)) ∧ w = w' := by
 by_cases h : sizeN r c
 ·have HD : Hid (sizeB r c = true) := by unfold Hid sizeB; simpa using h
  obtain ⟨⟨h1, h2⟩, h3, h4⟩ := h
  go_enter Tryz.func10, Tryz.ntmps10
  go_wp2; go_ret
  exact ⟨ret_bool HD.out.symm, rfl⟩
 ·have HD : Hid (sizeB r c = false) := by unfold Hid sizeB; simpa using h
  have HN := hide h; clear h
  by_cases h1 : 1 ≤ r
  ·by_cases h2 : r ≤ 512
   ·by_cases h3 : 1 ≤ c
    ·have h4 : ¬ c ≤ 512 := fun q => HN.out ⟨⟨h1, h2⟩, h3, q⟩
     go_enter Tryz.func10, Tryz.ntmps10
     go_wp2; go_ret
     exact ⟨ret_bool HD.out.symm, rfl⟩
    ·go_enter Tryz.func10, Tryz.ntmps10
     go_wp2; go_ret
     exact ⟨ret_bool HD.out.symm, rfl⟩
   ·go_enter Tryz.func10, Tryz.ntmps10
    go_wp2; go_ret
    exact ⟨ret_bool HD.out.symm, rfl⟩
  ·go_enter Tryz.func10, Tryz.ntmps10
   go_wp2; go_ret
   exact ⟨ret_bool HD.out.symm, rfl⟩
theorem new1W (w : World) (o : Obj) : Below w.heap.size w (w.alloc o) := (Below.refl _ _).alloc (Nat.le_refl _) _
theorem rhas_any (A : Option Addr) (R cap : Nat) (row col r : Int) (w : World) : Calls Tryz.prog 159 #[.agg #[.slice A R cap, .int .i64 row, .int .i64 col], .int .i64 r] w (Said (decide (hasG R r)) w) := by
 have HB : Hid (Below w.heap.size w (w.alloc (.cells #[.slice A R cap, .int .i64 row, .int .i64 col] 32))) := new1W _ _
 by_cases h0 : 0 ≤ r
 ·by_cases h1 : r < (R : Int)
  ·have HD : Hid (decide (hasG R r) = true) := by unfold Hid hasG; simp [h0, h1]
   go_enter Tryz.func159, Tryz.ntmps159
   go_wp2; go_ret
   exact ⟨ret_bool HD.out.symm, HB.out⟩
  ·have HD : Hid (decide (hasG R r) = false) := by unfold Hid hasG; simp [h1]
   go_enter Tryz.func159, Tryz.ntmps159
   go_wp2; go_ret
   exact ⟨ret_bool HD.out.symm, HB.out⟩
 ·have HD : Hid (decide (hasG R r) = false) := by unfold Hid hasG; simp [h0]
  go_enter Tryz.func159, Tryz.ntmps159
  go_wp2; go_ret
  exact ⟨ret_bool HD.out.symm, HB.out⟩
theorem rgcols_any (A : Option Addr) (R cap C : Nat) (row col : Int) (ls : List (List Cel)) (w : World) (h : Lns w A ls) (hR : ls.length = R) (h1 : 1 ≤ R) (hC : (lAt ls 0).length = C) : Calls Tryz.prog 53 #[.agg #[.slice A R cap, .int .i64 row, .int .i64 col]] w (Num .i64 (C : Int) w) := by
 have HB : Hid (Below w.heap.size w (w.alloc (.cells #[.slice A R cap, .int .i64 row, .int .i64 col] 32))) := new1W _ _
 obtain ⟨b, A', c', rfl, hb, hc, -⟩ := h.at (i := 0) (by omega)
 rw [hC] at hc
 have e1 : ((R : Int) == 0) = false := by simp; omega
 clear h
 go_enter Tryz.func53, Tryz.ntmps53
 go_wp2; go_ret
 exact ⟨rfl, HB.out⟩
theorem bring_any (x : Int) (n : Nat) (hn : 1 ≤ n) (hl : n ≤ 512) (w : World) : Calls Tryz.prog 129 #[.int .i64 x, .int .i64 n] w fun e w' => e = .returned (.int .i64 (nearN x n : Int)) ∧ w = w' := by
 by_cases h1 : (n : Int) ≤ x
 ·have HE : Hid ((nearN x n : Int) = (n : Int) - 1) := by unfold Hid nearN; omega
  go_enter Tryz.func129, Tryz.ntmps129
  go_wp2; go_ret
  exact ⟨by rw [HE.out]; rfl, rfl⟩
 ·by_cases h0 : x < 0
  ·have HE : Hid ((nearN x n : Int) = 0) := by unfold Hid nearN; omega
   go_enter Tryz.func129, Tryz.ntmps129
   go_wp2; go_ret
   exact ⟨by rw [HE.out]; rfl, rfl⟩
  ·have HE : Hid ((nearN x n : Int) = x) := by unfold Hid nearN; omega
   go_enter Tryz.func129, Tryz.ntmps129
   go_wp2; go_ret
   exact ⟨by rw [HE.out]; rfl, rfl⟩
def GaveD (R : Nat) (g : Gd) (w : World) (e : Ending) (w' : World) : Prop := ∃ A cap, e = .returned (.agg #[.slice A R cap, .int .i64 g.row, .int .i64 g.col]) ∧ Lns w' A g.ls ∧ Below w.heap.size w w'
def GaveD2 (R : Nat) (g : Gd) (ok : Bool) (w : World) (e : Ending) (w' : World) : Prop := ∃ A cap, e = .returned (.tuple #[.agg #[.slice A R cap, .int .i64 g.row, .int .i64 g.col], .bool ok]) ∧ Lns w' A g.ls ∧ Below w.heap.size w w'
def OwnD (R : Nat) (g : Gd) (w : World) (e : Ending) (w' : World) : Prop := ∃ b cap, e = .returned (.agg #[.slice (some ⟨b, 0, none⟩) R cap, .int .i64 g.row, .int .i64 g.col]) ∧ Lns w' (some ⟨b, 0, none⟩) g.ls ∧ Below w.heap.size w w' ∧ w.heap.size ≤ b
theorem RwsC.fresh {B : Nat} {w wr : World} {A : Option Addr} {n cap : Nat} {zss : List (List Cel)} (h : RwsC B w wr (.slice A n cap) zss) (h1 : 1 ≤ zss.length) : ∃ b, A = some ⟨b, 0, none⟩ ∧ B ≤ b := by
 obtain ⟨xs, ho, _⟩ := h.row
 rcases ho.2 with ⟨e, h0⟩ | ⟨g, cap', cur, e, hB, _⟩
 ·omega
 ·cases e
  exact ⟨g, rfl, hB⟩
theorem Below.put3 {B : Nat} {W w : World} {q : Nat} (h : Below B W w) (hq : B ≤ q) (x0 x1 x2 : Value) : Below B W (((w.setCell ⟨q, 0, none⟩ x0).setCell ⟨q, 1, none⟩ x1).setCell ⟨q, 2, none⟩ x2) := below_put3 h hq x0 x1 x2
theorem Lns.put3 {w : World} {A : Option Addr} {ls : List (List Cel)} {q : Nat} {t : TypeId} {l : List Value} (h : Lns w A ls) (hq : Whole w q t l) (h1 : t ≠ 166) (h2 : t ≠ 132) (x0 x1 x2 : Value) : Lns (((w.setCell ⟨q, 0, none⟩ x0).setCell ⟨q, 1, none⟩ x1).setCell ⟨q, 2, none⟩ x2) A ls :=
 h.keep (((Stays.put hq (Ne.symm h1)).trans (Stays.put (hq.put 0 x0) (Ne.symm h1))).trans (Stays.put ((hq.put 0 x0).put 1 x1) (Ne.symm h1))) (((Stays.put hq (Ne.symm h2)).trans (Stays.put (hq.put 0 x0) (Ne.symm h2))).trans (Stays.put ((hq.put 0 x0).put 1 x1) (Ne.symm h2)))
theorem rgnew_any (R C : Nat) (hR1 : 1 ≤ R) (hR : R ≤ 512) (w : World) : Calls Tryz.prog 38 #[.int .i64 R, .int .i64 C] w (OwnD R (newG R C) w) := by
 obtain ⟨W0, hW0⟩ := exq ((w.alloc (.cells #[.slice none 0 0, .int .i64 0, .int .i64 0] 32)).alloc (.cells #[.slice none 0 0, .int .i64 0, .int .i64 0] 32))
 have HB0 : Hid (Below w.heap.size w W0) := by unfold Hid; rw [← hW0]; exact two_new _ _ _ _ _
 have HP0 : Hid (Whole W0 w.heap.size 32 [.slice none 0 0, .int .i64 0, .int .i64 0]) := by unfold Hid; rw [← hW0]; exact (Whole.new _ _ _).alloc _
 have HQ0 : Hid (Whole W0 (w.heap.size + 1) 32 [.slice none 0 0, .int .i64 0, .int .i64 0]) := by unfold Hid; rw [← hW0]; exact whole_snd _ _ _ _
 have HW0 := hide hW0; clear hW0
 go_enter Tryz.func38, Tryz.ntmps38
 go_wp2; rw [HW0.out]
 go_loopw [6] (fun i wr => ∃ (k : Nat) (v : Value), k ≤ R ∧ i = .int .i64 k ∧ RwsC w.heap.size w wr v (gtab k (fun _ => newC (C : Int))) ∧ Whole wr (w.heap.size + 1) 32 [v, .int .i64 0, .int .i64 0] ∧ Whole wr w.heap.size 32 [.slice none 0 0, .int .i64 0, .int .i64 0]) (fun i _ => R - (intOf i).toNat)
 case atStart => exact ⟨0, _, Nat.zero_le _, rfl, RwsC.from0 HB0.out.size HB0.out, HQ0.out, HP0.out⟩
 case round =>
  obtain ⟨k, v, hk, rfl, hv, hq, hp⟩ := hrel
  have HV := hide hv; have HQ := hide hq; have HP := hide hp
  obtain ⟨Av, cv, rfl, -⟩ := hv.form
  rw [gtab_len] at HV HQ hq
  clear hv hp
  by_cases hlt : k < R
  ·obtain ⟨b0, b1, b2, lb⟩ := cells3 hq
   clear hq; go_wp2
   refine rgL (fun w' => Below wr.heap.size wr w') 5 [(0, 2), (0, 0), (0, 1), (1, 3), (1, 4), (3, 5), (3, 6), (3, 7)] bd1 ?_
   refine stL (h := ?_)
   refine stL (h := ?_)
   refine stL (hy := fun w hS => by obtain ⟨b0, b1, b2, -⟩ := cells3 (HQ.out.later hS); go_simp <;> with_reducible rfl) (h := ?_)
   refine alL fun K hK => ?_
   go_wp2_with fail
   refine (rnew_any (C : Int) _).mono ?_
   rintro e k1 ⟨x, rfl, hx⟩
   have Bk1 : Below wr.heap.size wr k1 := bd1.trans hx.bel
   have HX := hide hx.rowOk
   have HV1 := hide (HV.out.later Bk1)
   have HQ1 := hide (HQ.out.later Bk1)
   have HP1 := hide (HP.out.later Bk1)
   obtain ⟨Ax, cx, rfl, -⟩ := hx.rowOk
   clear hx; go_wp2
   refine hK.out _ _ (Bk1) ?_
   clear hK K
   refine alL fun K hK => ?_
   go_wp2
   refine hK.out _ _ (Bk1.alloc Bk1.size _) ?_
   clear hK K
   refine laL fun K hK => ?_
   go_wp2_with (at_builtin; refine stopw ?_)
   unfold Hid
   refine wpList_pushL rfl _ _ rfl rfl rfl HV1.out HX.out (by rw [gtab_len]; omega) ?_
   intro v2 w2 hown hoth
   have HV2 : Hid (RwsC w.heap.size w w2 v2 (gtab (k + 1) (fun _ => newC (C : Int)))) := by unfold Hid; rw [gtab_snoc]; exact hown
   have HQ2 := hide (hoth _ _ _ (by decide) HQ1.out)
   have HP2 := hide (hoth _ _ _ (by decide) HP1.out)
   clear hown hoth
   obtain ⟨A2, cap2, rfl, -⟩ := HV2.out.form
   rw [gtab_len] at HV2 ⊢
   obtain ⟨d0, d1, d2, ld⟩ := cells3 HQ2.out
   have hz := HQ2.out.frozen
   go_wp2
   refine hK.out _ _ ?_
   clear hK K
   refine laL fun K hK => ?_
   go_wp2
   refine hK.out _ _ ?_
   clear hK K
   refine laL fun K hK => ?_
   go_wp2
   refine hK.out _ _ ?_
   clear hK K
   refine chainL_nil ?_
   have HQ3 := hide (HQ2.out.put 0 (.slice A2 (k + 1) cap2))
   have HP3 := hide (HP2.out.far (Only.put (g := w.heap.size + 1) 0 (.slice A2 (k + 1) cap2)) (by omega))
   have HV3 := hide (HV2.out.put (i := 0) (u := .slice A2 (k + 1) cap2) HQ2.out (by decide) (by decide) (by omega))
   clear d0 d1 d2 ld hz Bk1 b0 b1 b2 lb; go_wp2
   go_roundw
   case rel => exact ⟨k + 1, _, by omega, by go_num, HV3.out, HQ3.out, HP3.out⟩
   case measure => simp [intOf]; omega
  ·obtain rfl : k = R := by omega
   obtain ⟨b, rfl, hfb⟩ := HV.out.fresh (by rw [gtab_len]; omega)
   obtain ⟨b0, b1, b2, lb⟩ := cells3 hq
   obtain ⟨d0, d1, d2, ld⟩ := cells3 HP.out
   have hz := HP.out.frozen
   have HFB := hide hfb; clear hq hfb; go_wp2
   refine retG Tryz.results38 rfl rfl (put3 HP.out _ _ _) ⟨b, cv, rfl, ?_, below_put3 HV.out.bel (Nat.le_refl _) _ _ _, HFB.out⟩
   obtain ⟨A3, c3, e3, -, -, -, hL⟩ := HV.out.form
   rw [gtab_len] at e3
   cases e3
   exact hL.put3 HP.out (by decide) (by decide) _ _ _
end
end Go.Proofs.YtkijclgbpbhglaaGreatDoor
