/-
  Contracts of the document's own answers: what is held, told.
-/
import Derived.Test.YtfngnmopdfojmaaPRef
namespace Go.Proofs.Ytfngnmopdfojmaa
set_option maxRecDepth 100000
open Go.ChangeShapes Go.WideShapes Go.ChangeAt Go.RowKit
set_option linter.unusedVariables false

theorem Whole.other {w : World} {b a i : Nat} {t : TypeId} {l : List Value} {u : Value} (h : Whole w b t l) (hne : ¬ b = a) : Whole (w.setCell ⟨a, i, none⟩ u) b t l := h.same (Below.heap_setCell _ _ _ _ (by simpa using hne))
set_option maxHeartbeats 2000000 in
theorem rpflush1_any (p : Ps) (A : Option Addr) (ln c : Nat) (A' : Option Addr) (lh c' : Nat) (es : List Ev) (Ao : Option Addr) (no co : Nat) (w : World) (hp : Dp w p A ln c A' lh c') (ho : Evo w es Ao no co) (hl : no ≤ 100000) :
    Calls Try.prog 30 #[.agg #[.int .i64 p.st, .slice A ln c, .slice A' lh c'], .slice Ao no co] w (DGave w ⟨p.st, p.n, []⟩ (es ++ brkE p.h)) := by
  obtain ⟨W0, hW0⟩ : ∃ W0, (w.alloc (.cells #[.int .i64 p.st, .slice A ln c, .slice A' lh c'] 37)).alloc (.cells #[.int .i64 0, .slice none 0 0, .slice none 0 0] 37) = W0 := ⟨_, rfl⟩
  have HB0 : Hid (Below w.heap.size w W0) := by unfold Hid; rw [← hW0]; exact two_new w _ _ [.int .i64 p.st, .slice A ln c, .slice A' lh c'] [.int .i64 0, .slice none 0 0, .slice none 0 0]
  have HP0 : Hid (Whole W0 w.heap.size 37 [.int .i64 p.st, .slice A ln c, .slice A' lh c']) := by unfold Hid; rw [← hW0]; exact (Whole.new w 37 [.int .i64 p.st, .slice A ln c, .slice A' lh c']).alloc _
  have HQ0 : Hid (Whole W0 (w.heap.size + 1) 37 [.int .i64 0, .slice none 0 0, .slice none 0 0]) := by unfold Hid; rw [← hW0]; exact whole_snd w _ 37 [.int .i64 0, .slice none 0 0, .slice none 0 0]
  have HSZ : Hid (w.heap.size + 1 + 1 = W0.heap.size) := by unfold Hid; rw [← hW0]; simp
  have HDw := hide hp
  have HOw := hide ho
  have HD := hide (hp.below HB0.out)
  have HO := hide (ho.below HB0.out)
  have HW0 := hide hW0
  have HL := hide hp.hl
  clear hW0 hp ho
  have hne : ¬ w.heap.size = w.heap.size + 1 := by omega
  have hne' : ¬ w.heap.size + 1 = w.heap.size := by omega
  by_cases h0 : lh = 0
  · subst h0
    have HE : Hid (es ++ brkE p.h = es) := by unfold Hid brkE; rw [if_pos (List.eq_nil_of_length_eq_zero HL.out), List.append_nil]
    have HB : Hid (Below w.heap.size w ((w.alloc (.cells #[.int .i64 p.st, .slice A ln c, .slice none 0 0] 37)).alloc (.cells #[.int .i64 p.st, .slice A ln c, .slice none 0 0] 37))) := two_new w _ _ [.int .i64 p.st, .slice A ln c, .slice none 0 0] [.int .i64 p.st, .slice A ln c, .slice none 0 0]
    go_enter Try.func30, Try.ntmps30
    go_wp2
    refine retP2 Try.results30 rfl rfl rfl (whole_snd w _ 37 [.int .i64 p.st, .slice A ln c, .slice none 0 0]) ?_
    have hd := HDw.out.below HB.out
    refine ⟨A, ln, c, none, 0, 0, Ao, no, co, rfl, ⟨hd.n, .nil, hd.nl, rfl, hd.c0, hd.c1, hd.c2, fun _ => rfl⟩, ?_, HB.out⟩
    rw [HE.out]
    exact HOw.out.below HB.out
  · have HE : Hid (es ++ brkE p.h = es ++ [⟨1, 65533, []⟩]) := by unfold Hid brkE; rw [if_neg (by intro e; have := HL.out; rw [e] at this; exact h0 this.symm)]
    have hgt : decide ((0 : Int) < (lh : Int)) = true := by simp; omega
    have a2 : W0.cell? ⟨w.heap.size, 2, none⟩ = some (.slice A' lh c') := HP0.out.cell 2
    have la := HP0.out.lt
    go_enter Try.func30, Try.ntmps30
    go_wp2_with (at_builtin; refine stopw ?_)
    unfold Hid
    rw [HW0.out, HSZ.out]
    refine wpList_catE elemE rfl _ _ rfl rfl rfl (OwnE.empty W0 (Nat.zero_le _)) (HO.out.below ((Below.refl _ _).alloc (Nat.le_refl _) _)).e HO.out.nl HO.out.c0 (by simp; omega) (by omega) (by decide) ?_
    intro v1 w1 h1 _ _
    rw [List.nil_append] at h1
    obtain ⟨A1, n1, c1, rfl⟩ := h1.slice
    have HV1 := hide h1
    have hlo : es.length ≤ 1000000 := by have := HO.out.nl; omega
    clear h1 a2 la
    go_wp2_with (at_builtin; refine stopw ?_)
    unfold Hid
    refine wpList_pushE elemE 1 65533 none 0 [] 0 rfl .nil rfl _ _ rfl rfl rfl HV1.out hlo (by omega) (by decide) ?_
    intro v2 w2 h2 _ _
    have HBW : Hid (Below W0.heap.size W0 w2) := h2.bel
    obtain ⟨A2, n2, c2, rfl, hev⟩ := h2.evo
    have HEV := hide hev
    have HP2 := hide (HP0.out.later HBW.out)
    have HQ2 := hide (HQ0.out.later HBW.out)
    have HD2 := hide (HD.out.below HBW.out)
    have HB2 : Hid (Below w.heap.size w w2) := HB0.out.trans (HBW.out.mono HB0.out.size)
    clear h2 hev HV1
    have H1 : Hid (Whole (w2.setCell ⟨w.heap.size, 2, none⟩ (.slice none 0 0)) w.heap.size 37 [.int .i64 p.st, .slice A ln c, .slice none 0 0]) := HP2.out.put 2 _
    have H2 := hide (HQ2.out.other (i := 2) (u := .slice none 0 0) hne')
    obtain ⟨a0, a1, a2, la⟩ := cells3 HP2.out
    obtain ⟨s0, s1, s2, ls⟩ := cells3 H1.out
    obtain ⟨q0, q1, q2, lq⟩ := cells3 H2.out
    have z0 := HP2.out.frozen 2
    have zq := H2.out.frozen
    have HB1 : Hid (Below w.heap.size w (w2.setCell ⟨w.heap.size, 2, none⟩ (.slice none 0 0))) := HB2.out.setCell (p := ⟨w.heap.size, 2, none⟩) (Nat.le_refl _) _
    have HS1 : Hid (∀ t, t ≠ 37 → Stays t w2 (w2.setCell ⟨w.heap.size, 2, none⟩ (.slice none 0 0))) := fun t ht => Stays.put HP2.out ht
    go_wp2
    refine retP2 Try.results30 rfl rfl rfl (put3 H2.out _ _ _) ?_
    refine ⟨A, ln, c, none, 0, 0, A2, n2, c2, rfl, ?_, ?_, below_put3 HB1.out (by omega) _ _ _⟩
    · have hst : ∀ t, t ≠ 37 → Stays t w2 _ := fun t ht => (HS1.out t ht).trans (stays_put3 H2.out ht (.int .i64 p.st) (.slice A ln c) (.slice none 0 0))
      exact ⟨HD2.out.n.keep (fun _ q => absurd q (by omega)) (hst 3 (by decide)), .nil, HD2.out.nl, rfl, HD2.out.c0, HD2.out.c1, HD2.out.c2, fun _ => rfl⟩
    · have hst : ∀ t, t ≠ 37 → Stays t w2 _ := fun t ht => (HS1.out t ht).trans (stays_put3 H2.out ht (.int .i64 p.st) (.slice A ln c) (.slice none 0 0))
      rw [HE.out]
      exact HEV.out.keep (hst 3 (by decide)) (hst 58 (by decide))
end Go.Proofs.Ytfngnmopdfojmaa
