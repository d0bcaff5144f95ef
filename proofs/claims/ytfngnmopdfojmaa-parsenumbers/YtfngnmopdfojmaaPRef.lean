/-
  Contracts of the document's own answers: what bytes begin with, told with the blocks' types; numbers, a digit more; the first eight; what is held, told.
-/
import Derived.Test.YtfngnmopdfojmaaPMem
import Derived.Test.YtfngnmopdfojmaaURef4
namespace Go.Proofs.Ytfngnmopdfojmaa
set_option maxRecDepth 100000
open Go.ChangeShapes Go.WideShapes Go.ChangeAt Go.RowKit
set_option linter.unusedVariables false

/-- The call answered with a row of scalars and what is held, and left all that was there. -/
def CutPostT (b : List Int) (w : World) (e : Ending) (w' : World) : Prop :=
  ∃ v A n c, e = .returned (.tuple #[v, .slice A n c]) ∧ Own 3 .i64 w.heap.size w w' v (cut b).1 ∧ IntsT 0 5 .u8 w' A (cut b).2 ∧ (cut b).2.length = n ∧ n ≤ c ∧ (A = none → c = 0)

set_option maxHeartbeats 1000000 in
theorem cutT_any (A : Option Addr) (n c : Nat) (b : List Int) (w : World) (hb : IntsT 0 5 .u8 w A b) (hn : b.length = n) (hc : n ≤ c) (hA : A = none → c = 0) (hcm : c ≤ maxLen) (hl : n ≤ 1000000) (by_ : Byte b) :
    Calls Try.prog 34 #[.slice A n c] w (CutPostT b w) := by
  unfold maxLen at hcm
  have HN := hide hn
  have HA := hide hA
  clear hn hA
  go_enter Try.func34, Try.ntmps34
  go_wp2
  go_loopw [0, 4, 5, 6] (fun s v _ _ wr => ∃ (A1 : Option Addr) (m c1 : Nat) (x acc : List Int), s = .slice A1 m c1 ∧ IntsT 0 5 .u8 w A1 x ∧ x.length = m ∧ m ≤ c1 ∧ (A1 = none → c1 = 0) ∧ c1 ≤ 9223372036854775807 ∧ Byte x ∧ acc.length + m ≤ n ∧
      (cut b).1 = acc ++ (cut x).1 ∧ (cut b).2 = (cut x).2 ∧ Own 3 .i64 w.heap.size w wr v acc) (fun s _ _ _ _ => lenOf s)
  case atStart => exact ⟨A, n, c, b, [], rfl, hb, HN.out, hc, HA.out, by omega, by_, by simp, by simp, rfl, Own.start (Nat.le_refl _)⟩
  case round =>
    obtain ⟨A1, m, c1, x, acc, rfl, hx, hm, hmc, hA1, hc1, bx, hacc, he1, he2, hown⟩ := hrel
    have HM := hide hm
    have HA1 := hide hA1
    have HE1 := hide he1
    have HE2 := hide he2
    clear hm hA1 he1 he2
    by_cases h0 : 0 < m
    · have hle := first_le x
      rw [HM.out] at hle
      have hrg := first_range x bx
      have hown0 := hown
      obtain ⟨r, q, hrq⟩ : ∃ r q, first x = (r, q) := ⟨_, _, rfl⟩
      rw [hrq] at hle hrg
      obtain ⟨hr0, hr1⟩ := hrg
      have HRQ := hide hrq
      clear hrq
      simp only at hle hr0 hr1
      by_cases hz : q = 0
      · subst hz
        have HC : Hid (cut x = ([], x)) := cut_held (by rw [HRQ.out])
        go_wp2_with fail
        refine (rfirst_any A1 m c1 x wr (hx.below hown.bel (Nat.zero_le _)).ints HM.out hmc (by omega) bx).mono ?_
        rintro e w1 ⟨rfl, hb1⟩
        rw [HRQ.out]
        go_wp2
        go_ret2
        refine ⟨_, A1, m, c1, rfl, ?_, ?_, ?_, hmc, HA1.out⟩
        · rw [HE1.out, HC.out, List.append_nil]; exact hown.later hb1
        · rw [HE2.out, HC.out]; exact hx.below ((hown.later hb1).bel) (Nat.zero_le _)
        · rw [HE2.out, HC.out]; exact HM.out
      · have HC : Hid (cut x = (r :: (cut (x.drop q)).1, (cut (x.drop q)).2)) := by
          have := cut_step (b := x) (by rw [HRQ.out]; exact hz)
          rw [HRQ.out] at this; exact this
        have hz' : ((q : Int) == 0) = false := by simp; omega
        have q1 : (0 : Int) ≤ (q : Int) := by omega
        have q2 : (q : Int) ≤ (m : Int) := by omega
        go_wp2_with fail
        refine (rfirst_any A1 m c1 x wr (hx.below hown.bel (Nat.zero_le _)).ints HM.out hmc (by omega) bx).mono ?_
        rintro e w1 ⟨rfl, hb1⟩
        rw [HRQ.out]
        have hown1 := hown.later hb1
        go_wp2_with (at_builtin; refine wpList_push elemInts rfl _ _ rfl rfl rfl hown1 (by omega) (by omega) ?_; intro v' w2 hown2)
        go_roundw
        case rel =>
          refine ⟨_, m - q, c1 - q, x.drop q, acc ++ [r], rfl, hx.cut q c1 (by rw [HM.out]; exact hmc), by rw [List.length_drop, HM.out], by omega, cut_nil_ HA1.out, by omega, bx.drop q, ?_, ?_, ?_, hown2⟩
          · rw [List.length_append]; simp only [List.length_cons, List.length_nil]; omega
          · rw [HE1.out, HC.out]; simp
          · rw [HE2.out, HC.out]
        case measure => simp [lenOf]; omega
    · have hm0 : m = 0 := by omega
      have HX : Hid (x = []) := by unfold Hid; exact List.eq_nil_of_length_eq_zero (by rw [HM.out]; exact hm0)
      clear hm0
      have HC : Hid (cut x = ([], [])) := by unfold Hid; rw [HX.out]; exact cut_nil
      have hgt : decide ((0 : Int) < (m : Int)) = false := by simp; omega
      go_wp2
      go_ret2
      refine ⟨_, none, 0, 0, rfl, ?_, .inl ?_, ?_, Nat.le_refl _, fun _ => rfl⟩
      · rw [HE1.out, HC.out, List.append_nil]; exact hown
      · rw [HE2.out, HC.out]
      · rw [HE2.out, HC.out]; rfl


theorem stopw {p : Prop} (h : Hid p) : p := h
theorem whole_snd (w : World) (o : Obj) (t : TypeId) (l : List Value) : Whole ((w.alloc o).alloc (.cells l.toArray t)) (w.heap.size + 1) t l := by
  have := Whole.new (w.alloc o) t l
  rwa [show (w.alloc o).heap.size = w.heap.size + 1 by simp] at this
theorem two_new (w : World) (t t' : TypeId) (l l' : List Value) : Below w.heap.size w ((w.alloc (.cells l.toArray t)).alloc (.cells l'.toArray t')) := ((Below.refl _ _).alloc (Nat.le_refl _) _).alloc (by simp) _
theorem cells3 {w : World} {q : Nat} {t : TypeId} {x0 x1 x2 : Value} (h : Whole w q t [x0, x1, x2]) : w.cell? ⟨q, 0, none⟩ = some x0 ∧ w.cell? ⟨q, 1, none⟩ = some x1 ∧ w.cell? ⟨q, 2, none⟩ = some x2 ∧ q < w.heap.size := ⟨h.cell 0, h.cell 1, h.cell 2, h.lt⟩
theorem put3 {w : World} {q : Nat} {t : TypeId} {y0 y1 y2 : Value} (hw : Whole w q t [y0, y1, y2]) (x0 x1 x2 : Value) : Whole (((w.setCell ⟨q, 0, none⟩ x0).setCell ⟨q, 1, none⟩ x1).setCell ⟨q, 2, none⟩ x2) q t [x0, x1, x2] := ((hw.put 0 x0).put 1 x1).put 2 x2
theorem below_put3 {B : Nat} {W w : World} {q : Nat} (h : Below B W w) (hq : B ≤ q) (x0 x1 x2 : Value) : Below B W (((w.setCell ⟨q, 0, none⟩ x0).setCell ⟨q, 1, none⟩ x1).setCell ⟨q, 2, none⟩ x2) :=
  ((h.setCell (p := ⟨q, 0, none⟩) hq x0).setCell (p := ⟨q, 1, none⟩) hq x1).setCell (p := ⟨q, 2, none⟩) hq x2
theorem stays_put3 {t t' : TypeId} {w : World} {q : Nat} {y0 y1 y2 : Value} (hw : Whole w q t' [y0, y1, y2]) (ht : t ≠ t') (x0 x1 x2 : Value) : Stays t w (((w.setCell ⟨q, 0, none⟩ x0).setCell ⟨q, 1, none⟩ x1).setCell ⟨q, 2, none⟩ x2) :=
  ((Stays.put hw ht).trans (Stays.put (hw.put 0 x0) ht)).trans (Stays.put ((hw.put 0 x0).put 1 x1) ht)
/-- A struct and a slice returned. -/
theorem retP2 {R : Ending → World → Prop} {a : Act} {w : World} {fn : Func} {s u : Nat} {q : Nat} {x0 x1 x2 v : Value} (hr : fn.results = #[.cell s 37, .tmp u]) (h4 : a.tmps.getD s undef = .pointer (some ⟨q, 0, none⟩)) (h5 : a.tmps.getD u undef = v) (hd : a.defers = [])
    (hw : Whole w q 37 [x0, x1, x2]) (hR : R (.returned (.tuple #[.agg #[x0, x1, x2], v])) w) : bodyPost Try.prog fn R .ret a w := by
  have c0 : w.cell? ⟨q, 0, none⟩ = some x0 := hw.cell 0
  have c1 : w.cell? ⟨q, 1, none⟩ = some x1 := hw.cell 1
  have c2 : w.cell? ⟨q, 2, none⟩ = some x2 := hw.cell 2
  clear hw
  rw [Array.getD_eq_getD_getElem?] at h4 h5
  exact bodyPost_ret (v := .tuple #[.agg #[x0, x1, x2], v]) (by simp [results, hr, h4, h5, c0, c1, c2, go_sem]) hd hR

/-! ### the document's parser, and its events -/
structure Dp (w : World) (p : Ps) (A : Option Addr) (ln c : Nat) (A' : Option Addr) (lh c' : Nat) : Prop where
  n : IntsT 0 3 .i64 w A p.n
  h : IntsT 0 5 .u8 w A' p.h
  nl : p.n.length = ln
  hl : p.h.length = lh
  c0 : A = none → c = 0
  c1 : ln ≤ c
  c2 : c ≤ maxLen
  d0 : A' = none → c' = 0
structure Evo (w : World) (es : List Ev) (A : Option Addr) (n c : Nat) : Prop where
  e : Evs 0 58 .i64 w A es
  nl : es.length = n
  c0 : A = none → c = 0
section
variable {w w' : World} {p : Ps} {A A' : Option Addr} {ln c lh c' : Nat} {es : List Ev}
theorem Dp.keep (h : Dp w p A ln c A' lh c') (h1 : Stays 3 w w') (h2 : Stays 5 w w') : Dp w' p A ln c A' lh c' := ⟨h.n.keep (fun _ q => absurd q (by omega)) h1, h.h.keep (fun _ q => absurd q (by omega)) h2, h.nl, h.hl, h.c0, h.c1, h.c2, h.d0⟩
theorem Dp.below (h : Dp w p A ln c A' lh c') (hb : Below w.heap.size w w') : Dp w' p A ln c A' lh c' := h.keep (.of_below hb) (.of_below hb)
theorem Evo.keep (h : Evo w es A ln c) (h1 : Stays 3 w w') (h2 : Stays 58 w w') : Evo w' es A ln c := ⟨h.e.keep (fun _ q => absurd q (by omega)) h1 h2, h.nl, h.c0⟩
theorem Evo.below (h : Evo w es A ln c) (hb : Below w.heap.size w w') : Evo w' es A ln c := h.keep (.of_below hb) (.of_below hb)
theorem Evo.nil : Evo w [] none 0 0 := ⟨.nil, rfl, fun _ => rfl⟩
theorem OwnE.evo {B : Nat} {w0 : World} {v : Value} (h : OwnE 0 58 .i64 B w0 w v es) : ∃ A n c, v = .slice A n c ∧ Evo w es A n c := by
  obtain ⟨A, cap, e, hev, _, h0, _⟩ := h.form
  exact ⟨A, _, cap, e, hev, rfl, h0⟩
theorem Evs.one {C : Nat} {te : TypeId} {k : IntKind} {q : Nat} {kd r : Int} {N : Option Addr} {n : Nat} {ns : List Int} (h : Whole w q te [.int .i64 kd, .int k r, .slice N n c]) (hn : ns.length = n) (hi : IntsT C 3 .i64 w N ns) : Evs C te k w (some ⟨q, 0, none⟩) [⟨kd, r, ns⟩] := by
  subst hn
  refine ⟨[⟨⟨kd, r, ns⟩, N, c⟩], rfl, by intro x hx; simp at hx; subst hx; exact hi, .inr ⟨q, 0, rfl, .inr ⟨_, h⟩, fun j v hj => ?_⟩⟩
  rw [Nat.zero_add, h.cell]
  simpa [flatE, eaL] using hj
end
/-- The call answered with the document's parser and events, and left all that was there. -/
def DGave (w : World) (q : Ps) (es : List Ev) (e : Ending) (w' : World) : Prop := ∃ A ln c A' lh c' Ao no co, e = .returned (.tuple #[.agg #[.int .i64 q.st, .slice A ln c, .slice A' lh c'], .slice Ao no co]) ∧ Dp w' q A ln c A' lh c' ∧ Evo w' es Ao no co ∧ Below w.heap.size w w'

/-! ### numbers -/
set_option maxHeartbeats 1000000 in
theorem rpfirst_any (A : Option Addr) (n c : Nat) (w : World) (hc : n ≤ c) (hm : c ≤ maxLen) : Calls Try.prog 36 #[.slice A n c] w fun e w' => e = .returned (.slice A (min n 8) c) ∧ w = w' := by
  unfold maxLen at hm
  by_cases h : n ≤ 8
  · rw [Nat.min_eq_left h]
    have h8 : (n : Int) ≤ 8 := by omega
    go_enter Try.func36, Try.ntmps36
    go_wp2
    go_ret
    exact ⟨rfl, rfl⟩
  · rw [Nat.min_eq_right (by omega)]
    have h8 : (8 : Int) < (n : Int) := by omega
    have hc8 : (8 : Int) ≤ (c : Int) := by omega
    go_enter Try.func36, Try.ntmps36
    go_wp2
    go_ret
    exact ⟨rfl, rfl⟩
set_option maxHeartbeats 1000000 in
theorem rpdigits_any (A : Option Addr) (n c : Nat) (ns : List Int) (w : World) (hi : Ints .i64 w A ns) (hn : ns.length = n) (hc : n ≤ c) (hcm : c ≤ maxLen) (hA : A = none → c = 0) (hk : NumOk ns) (hl : n ≤ 10000) (d : Int) (d0 : 0 ≤ d) (d9 : d ≤ 9) :
    Calls Try.prog 35 #[.slice A n c, .int .i64 d] w (Made 3 .i64 w (digN ns d)) := by
  unfold maxLen at hcm
  by_cases h0 : n = 0
  · subst h0
    have E : Hid (digN ns d = [d]) := by unfold Hid digN; rw [if_pos (List.eq_nil_of_length_eq_zero hn)]
    clear hi hn
    go_enter Try.func35, Try.ntmps35
    go_wp2
    go_ret
    exact ⟨_, rfl, by rw [E.out]; exact Own.lit w 3 .i64 [d] 1 rfl (by omega)⟩
  · obtain ⟨m, rfl⟩ : ∃ m, n = m + 1 := ⟨n - 1, by omega⟩
    have hne : ns ≠ [] := by intro e; rw [e] at hn; simp at hn
    obtain ⟨b, off, rfl, hcell, hlt⟩ := hi.at (i := m) (by omega)
    obtain ⟨x, hx⟩ : ∃ x, ns.getD m 0 = x := ⟨_, rfl⟩
    have hr := hk _ (getD_mem ns m (by omega))
    have E : Hid (digN ns d = ns.take m ++ [digV x d]) := by unfold Hid digN; rw [if_neg hne, hn, Nat.add_sub_cancel, hx]
    rw [hx] at hcell hr
    have HT : Hid (Ints .i64 (w.alloc (.cells #[] 3)) (some ⟨b, off, none⟩) (ns.take m)) := (hi.take m).alloc _
    have HL : Hid ((ns.take m).length = m) := by unfold Hid; rw [List.length_take]; omega
    have hz : ((m : Int) + 1 == 0) = false := by simp; omega
    obtain ⟨x0, x1⟩ := hr
    have hmc : (m : Int) ≤ (c : Int) := by omega
    clear hi hn hx hne hk h0
    generalize ns.take m = ts at *
    rcases (by omega : x = -1 ∨ (0 ≤ x ∧ 10 * x + d ≤ 9999) ∨ (0 ≤ x ∧ 9999 < 10 * x + d)) with hx | ⟨hx, hy⟩ | ⟨hx, hy⟩
    · subst hx
      have e : digV (-1) d = d := by unfold digV; simp; omega
      rw [e] at E
      have hy : d ≤ 9999 := by omega
      clear e
      go_enter Try.func35, Try.ntmps35
      go_wp2_with (at_builtin; refine stopw ?_)
      unfold Hid
      refine wpList_cat elemInts rfl _ _ rfl rfl rfl (Own.empty w 3 .i64) HT.out HL.out (fun h => by cases h) (by simp; omega) (by omega) ?_
      intro v1 w1 h1
      rw [List.nil_append] at h1
      go_wp2_with (at_builtin; refine stopw ?_)
      unfold Hid
      refine wpList_push elemInts rfl _ _ rfl rfl rfl h1 (by rw [HL.out]; omega) (by omega) ?_
      intro v2 w2 h2
      go_wp2
      go_ret
      exact ⟨_, rfl, by rw [E.out]; exact h2⟩
    · have e : digV x d = 10 * x + d := by unfold digV; rw [if_neg (by omega : ¬ x < 0), if_neg (by omega)]
      rw [e] at E
      clear e
      go_enter Try.func35, Try.ntmps35
      go_wp2_with (at_builtin; refine stopw ?_)
      unfold Hid
      refine wpList_cat elemInts rfl _ _ rfl rfl rfl (Own.empty w 3 .i64) HT.out HL.out (fun h => by cases h) (by simp; omega) (by omega) ?_
      intro v1 w1 h1
      rw [List.nil_append] at h1
      go_wp2_with (at_builtin; refine stopw ?_)
      unfold Hid
      refine wpList_push elemInts rfl _ _ rfl rfl rfl h1 (by rw [HL.out]; omega) (by omega) ?_
      intro v2 w2 h2
      go_wp2
      go_ret
      exact ⟨_, rfl, by rw [E.out]; exact h2⟩
    · have e : digV x d = 9999 := by unfold digV; rw [if_neg (by omega : ¬ x < 0), if_pos (by omega)]
      rw [e] at E
      clear e
      go_enter Try.func35, Try.ntmps35
      go_wp2_with (at_builtin; refine stopw ?_)
      unfold Hid
      refine wpList_cat elemInts rfl _ _ rfl rfl rfl (Own.empty w 3 .i64) HT.out HL.out (fun h => by cases h) (by simp; omega) (by omega) ?_
      intro v1 w1 h1
      rw [List.nil_append] at h1
      go_wp2_with (at_builtin; refine stopw ?_)
      unfold Hid
      refine wpList_push elemInts rfl _ _ rfl rfl rfl h1 (by rw [HL.out]; omega) (by omega) ?_
      intro v2 w2 h2
      go_wp2
      go_ret
      exact ⟨_, rfl, by rw [E.out]; exact h2⟩

end Go.Proofs.Ytfngnmopdfojmaa
