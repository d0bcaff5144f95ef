/-
  Contract: the span that a reader tells (the program's takeSpan).
-/
import Derived.Test.YthogcfjlipaekaaDoorDeTake1
import Derived.Test.YthogcfjlipaekaaDoorB16
namespace Go.Proofs.YthogcfjlipaekaaDoor
set_option maxRecDepth 100000
open Go.ChangeShapes Go.WideShapes Go.ChangeAt Go.RowKit
set_option linter.unusedVariables false

theorem retS3 {R : Ending → World → Prop} {a : Act} {w : World} {fn : Func} {s : Nat} {q : Nat} {x0 x1 x2 : Value} (hr : fn.results = #[.cell s 63]) (h4 : a.tmps.getD s undef = .pointer (some ⟨q, 0, none⟩)) (hd : a.defers = [])
    (hw : Whole w q 63 [x0, x1, x2]) (hR : R (.returned (.agg #[x0, x1, x2])) w) : bodyPost Tryd.prog fn R .ret a w := by
  have c0 : w.cell? ⟨q, 0, none⟩ = some x0 := hw.cell 0
  have c1 : w.cell? ⟨q, 1, none⟩ = some x1 := hw.cell 1
  have c2 : w.cell? ⟨q, 2, none⟩ = some x2 := hw.cell 2
  clear hw
  rw [Array.getD_eq_getD_getElem?] at h4
  exact bodyPost_ret (v := .agg #[x0, x1, x2]) (by simp [results, hr, h4, c0, c1, c2, go_sem]) hd hR
theorem stays_three {t t' : TypeId} {w : World} {q : Nat} {l : List Value} (hw : Whole w q t' l) (ht : t ≠ t') (x0 x1 x2 : Value) : Stays t w (((w.setCell ⟨q, 0, none⟩ x0).setCell ⟨q, 1, none⟩ x1).setCell ⟨q, 2, none⟩ x2) :=
  ((Stays.put hw ht).trans (Stays.put (hw.put 0 x0) ht)).trans (Stays.put ((hw.put 0 x0).put 1 x1) ht)
/-- A slice of cells that is told: where it lies. -/
structure Tld (t : TypeId) (k : IntKind) (w : World) (A : Option Addr) (c : Nat) (cs : List Cel) : Prop where
  cels : CelsT 0 t k w A cs
  cap : cs.length ≤ c
  none : A = none → c = 0
theorem Tld.keep {t : TypeId} {k : IntKind} {w w' : World} {A : Option Addr} {c : Nat} {cs : List Cel} (h : Tld t k w A c cs) (hs : Stays t w w') : Tld t k w' A c cs := ⟨h.cels.keep (fun b hb => absurd hb (Nat.not_lt_zero b)) hs, h.cap, h.none⟩
/-- What takeSpan leaves. -/
def SpanS (g : Nat) (w : World) (xs : List Int) (x : (Nat × Int) × Sp) (e : Ending) (w' : World) : Prop :=
  ∃ A c, e = .returned (.agg #[.int .i64 x.2.row, .int .i64 x.2.col, .slice A x.2.cs.length c]) ∧ Tld 79 .i32 w' A c x.2.cs ∧ Only g w w' ∧ RdS w' g xs x.1
def zsp : List Value := [.int .i64 0, .int .i64 0, .slice none 0 0]
theorem span_sides (xs : List Int) (s : Nat × Int) : sidesD xs s 2 = ((upD xs (upD xs s 512 5).1 512 5).1, [(upD xs s 512 5).2, (upD xs (upD xs s 512 5).1 512 5).2]) := rfl

set_option maxHeartbeats 1000000 in
theorem takespan_s (g : Nat) (xs : List Int) (s : Nat × Int) (w : World) (h : RdS w g xs s) (hb : Byte xs) (hl : xs.length ≤ 1000000) (hS : Spans w) :
    Calls Tryd.prog 48 #[.pointer (some ⟨g, 0, none⟩)] w (SpanS g w xs (spanD xs s)) := by
  have hgl := h.lt
  have HG0 := hide (spans_rd hS h)
  obtain ⟨W0, hW0⟩ : ∃ W0, ((w.alloc (.cells #[.int .i64 0, .int .i64 0, .slice none 0 0] 63)).alloc (.cells #[.int .i64 0, .int .i64 0, .slice none 0 0] 63)).alloc (.cells #[.pointer (some ⟨w.heap.size + 1, 0, none⟩), .pointer (some ⟨w.heap.size + 1, 1, none⟩)] 101) = W0 := ⟨_, rfl⟩
  have HB0 : Hid (Below w.heap.size w W0) := by unfold Hid; rw [← hW0]; exact three_newW w _ _ _
  have HP0 : Hid (Whole W0 w.heap.size 63 [.int .i64 0, .int .i64 0, .slice none 0 0]) := by unfold Hid; rw [← hW0]; exact ((Whole.new w 63 [.int .i64 0, .int .i64 0, .slice none 0 0]).alloc _).alloc _
  have HX0 : Hid (Whole W0 (w.heap.size + 1) 63 [.int .i64 0, .int .i64 0, .slice none 0 0]) := by unfold Hid; rw [← hW0]; exact (whole_snd w _ 63 [.int .i64 0, .int .i64 0, .slice none 0 0]).alloc _
  have HQ0 : Hid (Whole W0 (w.heap.size + 1 + 1) 101 (ptrsTo (w.heap.size + 1) 2)) := by unfold Hid; rw [← hW0]; exact whole_thd w _ _ 101 [.pointer (some ⟨w.heap.size + 1, 0, none⟩), .pointer (some ⟨w.heap.size + 1, 1, none⟩)]
  have HR0 := hide (h.later HB0.out)
  have HS0 := hide hS
  have KEY := hide (takesides_any g (w.heap.size + 1) (w.heap.size + 1 + 1) 63 2 [.int .i64 0, .int .i64 0, .slice none 0 0] xs s W0 HR0.out hb hl HQ0.out HX0.out (by decide) (by decide) (by decide) (by omega) (by omega) (by omega))
  have hsp : spanD xs s = ((takeD xs (sidesD xs s 2).1).1, ⟨(upD xs s 512 5).2, (upD xs (upD xs s 512 5).1 512 5).2, (takeD xs (sidesD xs s 2).1).2⟩) := rfl
  rw [span_sides] at KEY hsp
  obtain ⟨a1, ha1⟩ : ∃ a, (upD xs s 512 5).2 = a := ⟨_, rfl⟩
  obtain ⟨⟨s2, a2⟩, ha2⟩ : ∃ a, upD xs (upD xs s 512 5).1 512 5 = a := ⟨_, rfl⟩
  rw [ha1, ha2] at KEY hsp
  simp only [List.map_cons, List.map_nil, List.drop_succ_cons, List.drop_zero, List.cons_append, List.nil_append] at KEY
  simp only at hsp
  obtain ⟨⟨s3, cs⟩, hT⟩ : ∃ T, takeD xs s2 = T := ⟨_, rfl⟩
  rw [hT] at hsp
  have HSP := hide hsp
  have HTD := hide hT
  have HW0 := hide hW0
  have HGL := hide hgl
  clear h hS hW0 ha1 ha2 hsp hT hgl
  go_enter Tryd.func48, Tryd.ntmps48
  go_wp2_with fail
  rw [HW0.out]
  refine KEY.out.mono ?_
  rintro e w1 ⟨rfl, hr, hx, ht⟩
  have HO1 := hide (ht.only HB0.out (by omega))
  have HP1 := hide (ht.whole HP0.out (by have := HGL.out; omega) (by omega) (by omega))
  have HR1 := hide hr
  have HX1 := hide hx
  have HS1 := hide (HO1.out.spans HS0.out HG0.out)
  clear hr hx ht
  go_wp2_with fail
  refine (take_s g xs s2 w1 HR1.out hb hl HS1.out).mono ?_
  rw [HTD.out]
  rintro e w2 ⟨A, c, rfl, hct, ⟨hcl, hcn⟩, ho, hr⟩
  simp only at hct hcl hr
  obtain ⟨n, hn⟩ : ∃ n, cs.length = n := ⟨_, rfl⟩
  simp only
  rw [hn]
  have HTL : Hid (Tld 79 .i32 w2 A c cs) := ⟨hct, hcl, hcn⟩
  have HN := hide hn
  have HO2 := hide (HO1.out.trans ho)
  have HP2 := hide (HP1.out.far ho (by have := HGL.out; omega))
  have HX2 := hide (HX1.out.far ho (by have := HGL.out; omega))
  have HR2 := hide hr
  clear hct hcl hcn ho hr hn
  obtain ⟨x0, x1, x2, lx⟩ := cells3 HX2.out
  have z2 := HX2.out.frozen 2
  have hx3 : Whole (w2.setCell ⟨w.heap.size + 1, 2, none⟩ (.slice A n c)) (w.heap.size + 1) 63 [.int .i64 a1, .int .i64 a2, .slice A n c] := HX2.out.put 2 _
  have hp3 : Whole (w2.setCell ⟨w.heap.size + 1, 2, none⟩ (.slice A n c)) w.heap.size 63 [.int .i64 0, .int .i64 0, .slice none 0 0] := HP2.out.far (Only.put 2 _) (by omega)
  have HR3 : Hid (RdS (w2.setCell ⟨w.heap.size + 1, 2, none⟩ (.slice A n c)) g xs s3) := HR2.out.putq HX2.out (by decide) (by have := HGL.out; omega)
  have HO3 : Hid (Only g w (w2.setCell ⟨w.heap.size + 1, 2, none⟩ (.slice A n c))) := only_putq HO2.out (by omega) _
  have HT3 : Hid (Tld 79 .i32 (w2.setCell ⟨w.heap.size + 1, 2, none⟩ (.slice A n c)) A c cs) := HTL.out.keep (Stays.put HX2.out (by decide))
  obtain ⟨w3, hw3⟩ : ∃ w3, w2.setCell ⟨w.heap.size + 1, 2, none⟩ (.slice A n c) = w3 := ⟨_, rfl⟩
  rw [hw3] at hx3 hp3 HR3 HO3 HT3
  have HX3 := hide hx3
  have HP3 := hide hp3
  have HW3 := hide hw3
  clear hx3 hp3 hw3
  go_upto_region 4 with fail
  rw [HW3.out]
  clear x0 x1 x2 lx z2
  obtain ⟨x0, x1, x2, lx⟩ := cells3 HX3.out
  obtain ⟨p0, p1, p2, lp⟩ := cells3 HP3.out
  have z0 := HP3.out.frozen 0
  have z1 := HP3.out.frozen 1
  have z2 := HP3.out.frozen 2
  go_wp2
  refine retS3 Tryd.results48 rfl rfl (put3 HP3.out _ _ _) ?_
  rw [HSP.out]
  refine ⟨A, c, by rw [HN.out], HT3.out.keep (stays_three HP3.out (by decide) _ _ _), only_put3 HO3.out (Nat.le_refl _) _ _ _, ?_⟩
  have hne : g ≠ w.heap.size := by have := HGL.out; omega
  exact ((HR3.out.putq (i := 0) (x := .int .i64 a1) HP3.out (by decide) hne).putq (i := 1) (x := .int .i64 a2) (HP3.out.put 0 _) (by decide) hne).putq (i := 2) (x := .slice A n c) ((HP3.out.put 0 _).put 1 _) (by decide) hne
end Go.Proofs.YthogcfjlipaekaaDoor
