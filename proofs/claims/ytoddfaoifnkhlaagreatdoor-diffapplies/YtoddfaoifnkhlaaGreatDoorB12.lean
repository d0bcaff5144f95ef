/-
  Contracts and plain mathematics of GAsk, GRef6, GDo.
-/
import Derived.Test.YtoddfaoifnkhlaaGreatDoorB11
import Derived.Test.YtoddfaoifnkhlaaGreatDoorB10
import Derived.Test.YtoddfaoifnkhlaaGreatDoorB9
namespace Go.Proofs.YtoddfaoifnkhlaaGreatDoor
set_option maxRecDepth 100000
set_option linter.unusedVariables false
set_option maxHeartbeats 8000000
section
open Go.ChangeShapes Go.WideShapes Go.ChangeAt Go.RowKit
section
variable {w : World} {G L M R C : Nat} {g : Gd}
theorem scroll_any (h : Grd w G L M R C g) (hR : 1 ≤ R) (hR2 : R ≤ 512) (hC : 1 ≤ C) (hC2 : C ≤ 512) (hS : Spans w) (n : Int) (f y b : Nat) :
  Calls Tryz.prog 67 #[.pointer (some ⟨G, 0, none⟩), .int .i64 n, .agg #[.int .u8 f, .int .u8 y, .int .u8 b]] w (Scrolled R C (scrollG g C n ⟨f, y, b⟩) w G L M) := by
 by_cases hp : rightN ⟨f, y, b⟩ = true
 ·obtain ⟨c, hc⟩ := exq (clampI n R)
  have h1 : -(R : Int) ≤ c ∧ c ≤ (R : Int) := by rw [← hc]; unfold clampI; omega
  by_cases h0 : 0 ≤ c
  ·exact scroll_up h hR hR2 hC hC2 hS n f y b hp c.toNat _ (by omega) rfl (by rw [hc]; omega)
  ·exact scroll_down h hR hR2 hC hC2 hS n f y b hp (-c).toNat _ (by omega) rfl (by omega) (by rw [hc]; omega)
 ·obtain ⟨W0, hW0⟩ := exq (w.alloc (.cells #[.int .u8 f, .int .u8 y, .int .u8 b] 63))
  have HB0 : Hid (Below w.heap.size w W0) := by unfold Hid; rw [← hW0]; exact (Below.refl _ _).alloc (Nat.le_refl _) _
  have HP0 : Hid (Whole W0 w.heap.size 63 [.int .u8 f, .int .u8 y, .int .u8 b]) := by unfold Hid; rw [← hW0]; exact Whole.new _ _ _
  have HE : Hid (scrollG g C n ⟨f, y, b⟩ = g) := by unfold Hid scrollG; rw [if_neg hp]
  have HPR : Hid (rightN ⟨f, y, b⟩ = false) := by unfold Hid; simpa using hp
  have HG := hide h; have HW0 := hide hW0
  obtain ⟨a0, a1, a2, lP⟩ := cells3 HP0.out
  clear hW0 h hp hS
  go_enter Tryz.func67, Tryz.ntmps67
  go_wp2_with fail
  rw [HW0.out]
  refine (right_any f y b W0).mono ?_
  rintro e W1 ⟨rfl, hb⟩
  rw [HPR.out]
  have HB := hide (HB0.out.trans (hb.mono HB0.out.size))
  clear a0 a1 a2 lP hb; go_wp2
  exact bodyPost_ret (v := .tuple #[]) (by simp [results, Tryz.results67]) rfl ⟨rfl, L, by rw [HE.out]; exact HG.out.later HB.out, Trn.of_below HB.out, .inl rfl⟩
end
theorem fieldsCur : fieldsAre Tryz.prog 99 [(false, 3, 0), (false, 3, 1)] := by unfold fieldsAre; kernel_rfl
theorem eqlCur (m n m' n' : Int) (w : World) : (binOp .eql 99 (.agg #[.int .i64 m, .int .i64 n]) (.agg #[.int .i64 m', .int .i64 n'])).run Tryz.prog w = .ok (.bool (eqM m n m' n')) w := by
 rw [run_eql_struct, run_equalIn_agg w 9999 99 _ _ Tryz.underlying99 Tryz.stoodInHeld99]
 have h3 := fieldsCur
 unfold fieldsAre at h3
 generalize (Tryz.prog.fieldsOf 99).toList = fs at h3
 have hl : fs.length = 2 := by have := congrArg List.length h3; simpa using this
 match fs, hl with
 | [f0, f1], _ =>
  simp only [List.map_cons, List.map_nil, List.cons.injEq, Prod.mk.injEq, beq_eq_false_iff_ne, ne_eq, and_true] at h3
  obtain ⟨⟨n0, t0, o0⟩, n1, t1, o1⟩ := h3
  simp only [Op.eqFields, n0, n1, t0, t1, o0, o1, ne_eq, not_false_eq_true, if_true, Sem.run_bind, part3 #[Value.int .i64 m, .int .i64 n] 0 m rfl, part3 #[Value.int .i64 m, .int .i64 n] 1 n rfl,
   part3 #[Value.int .i64 m', .int .i64 n'] 0 m' rfl, part3 #[Value.int .i64 m', .int .i64 n'] 1 n' rfl, Result.andThen_ok, run_equalIn_int w _ 3 .i64 .i64 _ _ Tryz.underlying3, Sem.run_ite, Sem.run_pure]
  unfold eqM
  cases hf : m == m' <;> cases hg : n == n' <;> simp
section
variable {w : World} {G L M R C G' L' M' R' C' : Nat} {g g' : Gd} {cap cap' : Nat} {ps ps' : Nat → Nat} {room room' : List Cel} {more more' : List Value}
theorem ls_eq {a b : List (List Cel)} {n : Nat} (ha : a.length = n) (hb : b.length = n) : decide (a = b) = true ↔ ∀ i, i < n → lAt a i = lAt b i := by
 rw [decide_eq_true_iff]
 constructor
 ·rintro rfl i _; rfl
 ·intro h
  rw [← gtab_self a, ← gtab_self b, ha, hb]
  exact gtab_eq h
theorem equalf_any (h : GridAt w G L M R C g cap ps room more) (h' : GridAt w G' L' M' R' C' g' cap' ps' room' more') (hR : R ≤ 512) (hR' : R' ≤ 512) (hC : C ≤ 512) :
  Calls Tryz.prog 48 #[.slice (some ⟨L, 0, none⟩) R cap, .slice (some ⟨L', 0, none⟩) R' cap', .func (.func 49) #[] #[]] w (Said (decide (g.ls = g'.ls)) w) := by
 have H := hide h
 have H' := hide h'
 clear h h'
 by_cases hne : R = R'
 ·subst hne
  have HQ := hide (ls_eq H.out.glen H'.out.glen)
  go_enter Tryz.func48, Tryz.ntmps48
  go_wp2
  go_loopw [7, 8, 9, 17] (fun _ _ _ i wr => ∃ k : Nat, k ≤ R ∧ i = .int .i64 k ∧ Below w.heap.size w wr ∧ ∀ q, q < k → lAt g.ls q = lAt g'.ls q) (fun _ _ _ i _ => R - (intOf i).toNat)
  case atStart => exact ⟨0, Nat.zero_le _, rfl, Below.refl _ _, fun q hq => by omega⟩
  case round =>
   obtain ⟨k, hk, rfl, hb, hall⟩ := hrel
   have HB := hide hb; have HAll := hide hall; clear hb hall
   by_cases hlt : k < R
   ·have H1 := hide (H.out.later HB.out)
    have H2 := hide (H'.out.later HB.out)
    have b0 := H1.out.row hlt
    have b1 := H2.out.row hlt
    have l0 := H1.out.lines.lt
    have l1 := H2.out.lines.lt
    by_cases hq : lAt g.ls k = lAt g'.ls k
    ·have HE : Hid (decide (lAt g.ls k = lAt g'.ls k) = true) := by unfold Hid; simpa using hq
     have HKQ := hide hq; clear hq; go_wp2_with fail
     refine (same6_any _ _ C C C' C' _ _ wr (H1.out.cels hlt) (H2.out.cels hlt) (H1.out.lenAt hlt) (H2.out.lenAt hlt) (by omega)).mono ?_
     rintro e k1 ⟨rfl, hb⟩
     rw [HE.out]
     have HB1 := hide (HB.out.trans (hb.mono HB.out.size))
     clear hb b0 b1 l0 l1; go_wp2
     go_roundw
     case rel => exact ⟨k + 1, by omega, by go_num, HB1.out, fun q hq => by
      by_cases e : q = k
      ·rw [e]; exact HKQ.out
      ·exact HAll.out q (by omega)⟩
     case measure => simp [intOf]; omega
    ·have HE : Hid (decide (lAt g.ls k = lAt g'.ls k) = false) := by unfold Hid; simpa using hq
     have HN : Hid (decide (g.ls = g'.ls) = false) := by
      unfold Hid
      rw [decide_eq_false_iff_not]
      intro e
      exact hq (by rw [e])
     clear hq; go_wp2_with fail
     refine (same6_any _ _ C C C' C' _ _ wr (H1.out.cels hlt) (H2.out.cels hlt) (H1.out.lenAt hlt) (H2.out.lenAt hlt) (by omega)).mono ?_
     rintro e k1 ⟨rfl, hb⟩
     rw [HE.out]
     have HB1 := hide (HB.out.trans (hb.mono HB.out.size))
     clear hb b0 b1 l0 l1; go_wp2; go_ret
     exact ⟨ret_bool HN.out.symm, HB1.out⟩
   ·have HY : Hid (decide (g.ls = g'.ls) = true) := by unfold Hid; exact HQ.out.2 fun i hi => HAll.out i (by omega)
    go_wp2; go_ret
    exact ⟨ret_bool HY.out.symm, HB.out⟩
 ·have e1 : ((R : Int) != (R' : Int)) = true := by simp; omega
  have HN : Hid (decide (g.ls = g'.ls) = false) := by
   unfold Hid
   rw [decide_eq_false_iff_not]
   intro e
   have := H.out.glen
   rw [e, H'.out.glen] at this
   exact hne this.symm
  clear hne
  go_enter Tryz.func48, Tryz.ntmps48
  go_wp2; go_ret
  exact ⟨ret_bool HN.out.symm, Below.refl _ _⟩
def sameG (a b : Gd) : Bool := decide (a.row = b.row ∧ a.col = b.col) && decide (a.ls = b.ls)
theorem sameG_iff (a b : Gd) : sameG a b = true ↔ a = b := by
 obtain ⟨l, r, c⟩ := a
 obtain ⟨l', r', c'⟩ := b
 simp only [sameG, Bool.and_eq_true, decide_eq_true_iff, Gd.mk.injEq]
 constructor
 ·rintro ⟨⟨rfl, rfl⟩, rfl⟩; exact ⟨rfl, rfl, rfl⟩
 ·rintro ⟨rfl, rfl, rfl⟩; exact ⟨⟨rfl, rfl⟩, rfl⟩
theorem sameG_self (a : Gd) : sameG a a = true := (sameG_iff a a).2 rfl
theorem gsame_any (h1 : Grd w G L M R C g) (h2 : Grd w G' L' M' R' C' g') (hR1 : R ≤ 512) (hR2 : R' ≤ 512) (hC1 : C ≤ 512) :
  Calls Tryz.prog 16 #[.pointer (some ⟨G, 0, none⟩), .pointer (some ⟨G', 0, none⟩)] w (Said (sameG g g') w) := by
 obtain ⟨cap, ps, room, more, h1⟩ := h1
 obtain ⟨cap', ps', room', more', h2⟩ := h2
 have H1 := hide h1; have H2 := hide h2
 obtain ⟨c0, c1, c2, lG, -, -⟩ := h1.three
 obtain ⟨d0, d1, d2, lG', -, -⟩ := h2.three
 have eC := eqlCur
 by_cases hq : g.row = g'.row ∧ g.col = g'.col
 ·have e1 : eqM (g.row : Int) (g.col : Int) (g'.row : Int) (g'.col : Int) = true := by unfold eqM; simp [hq.1, hq.2]
  have HS : Hid (sameG g g' = decide (g.ls = g'.ls)) := by unfold Hid sameG; simp [hq.1, hq.2]
  clear hq h1 h2
  go_enter Tryz.func16, Tryz.ntmps16
  go_wp2
  refine rgL (fun w' => Below w.heap.size w w') 18 [(0, 0), (0, 4), (0, 1), (0, 2), (0, 5), (0, 6), (0, 3), (1, 7), (1, 8), (1, 9), (0, 10), (0, 14), (0, 11), (0, 12), (0, 15), (0, 16), (0, 13), (1, 17), (3, 18), (3, 19), (3, 20)] bd1 ?_
  iterate 6 refine stL (h := ?_)
  refine stL (hy := fun w hS => by obtain ⟨b0, b1, b2, -⟩ := (H1.out.later hS).three; go_simp <;> with_reducible rfl) (h := ?_)
  refine alL fun K hK => ?_
  go_wp2
  refine hK.out _ _ bd1 ?_
  clear hK K
  refine alL fun K hK => ?_
  go_wp2
  refine hK.out _ _ bd1 ?_
  clear hK K
  refine alL fun K hK => ?_
  go_wp2
  refine hK.out _ _ bd1 ?_
  clear hK K
  iterate 6 refine stL (h := ?_)
  refine stL (hy := fun w hS => by obtain ⟨b0, b1, b2, -⟩ := (H1.out.later hS).three; go_simp <;> with_reducible rfl) (h := ?_)
  refine alL fun K hK => ?_
  go_wp2
  refine hK.out _ _ bd1 ?_
  clear hK K
  refine laL fun K hK => ?_
  go_wp2_with fail
  refine (equalf_any (H1.out.later bd1) (H2.out.later bd1) hR1 hR2 hC1).mono ?_
  rintro e k1 ⟨rfl, hb⟩
  have Bk1 : Below w.heap.size w k1 := ((Below.refl w.heap.size w).drewN 1).trans hb
  clear hb; go_wp2
  refine hK.out _ _ ?_
  clear hK K
  refine laL fun K hK => ?_
  go_wp2
  refine hK.out _ _ ?_
  clear hK K
  refine laL fun K hK => ?_
  go_wp2
  refine hK.out _ _ ?_
  clear hK K
  refine chainL_nil ?_
  have HB := hide Bk1; clear Bk1; go_wp2; go_ret
  exact ⟨ret_bool HS.out.symm, HB.out⟩
 ·have e1 : eqM (g.row : Int) (g.col : Int) (g'.row : Int) (g'.col : Int) = false := by
   unfold eqM
   rw [Bool.and_eq_false_iff]
   by_cases q : g.row = g'.row
   ·right; simp; intro q2; exact hq ⟨q, by omega⟩
   ·left; simp; omega
  have HS : Hid (sameG g g' = false) := by unfold Hid sameG; simp [hq]
  clear hq h1 h2
  go_enter Tryz.func16, Tryz.ntmps16
  go_wp2
  refine rgH (fun w' => Below w.heap.size w w') [(true, 0), (true, 4), (true, 1), (true, 2), (true, 5), (true, 6), (true, 3), (false, 7), (false, 8), (false, 9), (true, 10), (true, 14), (true, 11), (true, 12), (true, 15), (true, 16), (true, 13), (false, 17), (false, 18), (false, 19), (false, 20)] bd1 ?_
  iterate 6 refine stH (h := ?_)
  refine stH (hy := fun w hS => by obtain ⟨b0, b1, b2, -⟩ := (H1.out.later hS).three; go_simp <;> with_reducible rfl) (h := ?_)
  refine alH fun K hK => ?_
  go_wp2
  refine hK.out _ _ bd1 ?_
  clear hK K
  refine alH fun K hK => ?_
  go_wp2
  refine hK.out _ _ bd1 ?_
  clear hK K
  refine alH fun K hK => ?_
  go_wp2
  refine hK.out _ _ bd1 ?_
  clear hK K
  iterate 7 refine skH (h := ?_)
  refine paH bd1 (h := ?_)
  refine paH bd1 (h := ?_)
  refine alH fun K hK => ?_
  go_wp2
  refine hK.out _ _ bd1 ?_
  clear hK K
  refine alH fun K hK => ?_
  go_wp2
  refine hK.out _ _ bd1 ?_
  clear hK K
  refine chainH_nil ?_
  go_wp2; go_ret
  exact ⟨ret_bool HS.out.symm, (Below.refl _ _).drewN 1⟩
theorem gsame_nilR (G : Nat) (w : World) : Calls Tryz.prog 16 #[.pointer (some ⟨G, 0, none⟩), .pointer none] w fun e w' => e = .returned (.bool false) ∧ w = w' := by
 go_enter Tryz.func16, Tryz.ntmps16
 go_wp2; go_ret
 exact ⟨rfl, rfl⟩
theorem gsame_nil2 (w : World) : Calls Tryz.prog 16 #[.pointer none, .pointer none] w fun e w' => e = .returned (.bool true) ∧ w = w' := by
 go_enter Tryz.func16, Tryz.ntmps16
 go_wp2; go_ret
 exact ⟨rfl, rfl⟩
theorem gright1_yes (A : Option Addr) (n c : Nat) (z : List Cel) (w : World) (h : Cels .i32 w A z) (hn : z.length = n) (hl : n ≤ 1000000) (hlb : LB z) (hS : Spans w) (hr : rightL z = true) : Calls Tryz.prog 57 #[.slice A n c] w (Said false w) := by
 have H := hide h; have HN := hide hn; have HL := hide hlb; have HS := hide hS; have HR := hide hr; clear h hn hlb hS hr
 go_enter Tryz.func57, Tryz.ntmps57
 go_wp2_with fail
 refine (lright_any A n c z w H.out HN.out hl HL.out HS.out).mono ?_
 rintro e k1 ⟨rfl, hb⟩
 rw [HR.out]
 have HB := hide hb; clear hb; go_wp2; go_ret
 exact ⟨rfl, HB.out⟩
theorem gindexf_yes (h : GridAt w G L M R C g cap ps room more) (hok : GOk g R C) (hS : Spans w) : Calls Tryz.prog 90 #[.slice (some ⟨L, 0, none⟩) R cap, .func (.func 57) #[] #[]] w (Num .i64 (-1) w) := by
 have H := hide h; have HO := hide hok; have HS := hide hS
 have hR := hok.r2
 have hC := hok.c2
 clear h hok hS
 go_enter Tryz.func90, Tryz.ntmps90
 go_wp2
 go_loopw [5, 8] (fun _ i wr => ∃ k : Nat, k ≤ R ∧ i = .int .i64 k ∧ Below w.heap.size w wr) (fun _ i _ => R - (intOf i).toNat)
 case atStart => exact ⟨0, Nat.zero_le _, rfl, Below.refl _ _⟩
 case round =>
  obtain ⟨k, hk, rfl, hb⟩ := hrel
  have HB := hide hb; clear hb
  by_cases hlt : k < R
  ·have H1 := hide (H.out.later HB.out)
   have b0 := H1.out.row hlt
   have l0 := H1.out.lines.lt
   go_wp2_with fail
   refine (gright1_yes _ C C _ wr (H1.out.cels hlt) (H1.out.lenAt hlt) (by omega) (HO.out.each k hlt).2.2 (HS.out.below HB.out) (HO.out.each k hlt).2.1).mono ?_
   rintro e k1 ⟨rfl, hb⟩
   have HB1 := hide (HB.out.trans (hb.mono HB.out.size))
   clear hb b0 l0; go_wp2
   go_roundw
   case rel => exact ⟨k + 1, by omega, by go_num, HB1.out⟩
   case measure => simp [intOf]; omega
  ·go_wp2
   go_ret
   exact ⟨rfl, HB.out⟩
theorem gright_yes (h : Grd w G L M R C g) (hok : GOk g R C) (hS : Spans w) : Calls Tryz.prog 22 #[.pointer (some ⟨G, 0, none⟩)] w (Said true w) := by
 obtain ⟨cap, ps, room, more, h⟩ := h
 obtain ⟨c0, c1, c2, lG, -, -⟩ := h.three
 have HC : Hid (Calls Tryz.prog 56 #[.slice (some ⟨L, 0, none⟩) R cap, .func (.func 57) #[] #[]] w (Said false w)) := by
  unfold Hid
  have HX := hide (gindexf_yes h hok hS)
  clear h hok hS c0 c1 c2 lG
  go_enter Tryz.func56, Tryz.ntmps56
  go_wp2_with fail
  refine HX.out.mono ?_
  rintro e k1 ⟨rfl, hb⟩
  have HB := hide hb; clear hb; go_wp2; go_ret
  exact ⟨rfl, HB.out⟩
 clear h hok hS
 go_enter Tryz.func22, Tryz.ntmps22
 go_wp2_with fail
 refine HC.out.mono ?_
 rintro e k1 ⟨rfl, hb⟩
 have HB := hide hb; clear hb c0 c1 c2 lG; go_wp2; go_ret
 exact ⟨rfl, HB.out⟩
theorem gat_yes (h : Grd w G L M R C g) (q j : Nat) (hq : q < R) (hj : j < C) (hC : C ≤ 512) (r m x : Int) (d f y b : Nat) (hc : cAt (lAt g.ls q) j = ⟨r, m, x, d, ⟨f, y, b⟩⟩) :
  Calls Tryz.prog 28 #[.pointer (some ⟨G, 0, none⟩), .int .i64 q, .int .i64 j] w fun e w' => e = .returned (.tuple #[.agg #[.int .i32 r, .int .i32 m, .int .i32 x, .int .u8 d, .int .u8 f, .int .u8 y, .int .u8 b], .bool true]) ∧ Below w.heap.size w w' := by
 obtain ⟨W0, hW0⟩ := exq (w.alloc (.cells #[.int .i32 0, .int .i32 0, .int .i32 0, .int .u8 0, .int .u8 0, .int .u8 0, .int .u8 0] 65))
 have HB : Hid (Below w.heap.size w W0) := by unfold Hid; rw [← hW0]; exact (Below.refl _ _).alloc (Nat.le_refl _) _
 have HX : Hid (Whole W0 w.heap.size 65 [.int .i32 0, .int .i32 0, .int .i32 0, .int .u8 0, .int .u8 0, .int .u8 0, .int .u8 0]) := by unfold Hid; rw [← hW0]; exact Whole.new _ _ _
 have HG := hide (h.later HB.out)
 have HW0 := hide hW0
 obtain ⟨cap, ps, room, more, ha⟩ := HG.out
 obtain ⟨c0, c1, c2, lG, lL, lM⟩ := ha.three
 have c3 := ha.row hq
 obtain ⟨a0, a1, a2, a3, a4, a5, a6, -⟩ := (ha.cels hq).sevenC j (by rw [ha.lenAt hq]; exact hj) hc
 obtain ⟨z0, z1, z2, z3, z4, z5, z6, lz⟩ := cells7 HX.out
 have hz := HX.out.frozen
 clear hW0 h ha hc
 go_enter Tryz.func28, Tryz.ntmps28
 go_wp2_with fail
 rw [HW0.out]
 refine (has_any HG.out q).mono ?_
 rintro e w1 ⟨rfl, rfl⟩
 rw [hasG_in hq]
 go_wp2
 refine ret72 Tryz.results28 (.inl rfl) rfl rfl rfl (put7 HX.out _ _ _ _ _ _ _) ⟨rfl, below_put7 HB.out (Nat.le_refl _) _ _ _ _ _ _ _⟩
theorem gat_no (h : Grd w G L M R C g) (r c : Int) (hno : ¬ (hasG R r ∧ 0 ≤ c ∧ c < (C : Int))) :
  Calls Tryz.prog 28 #[.pointer (some ⟨G, 0, none⟩), .int .i64 r, .int .i64 c] w fun e w' => e = .returned (.tuple #[.agg #[.int .i32 0, .int .i32 0, .int .i32 0, .int .u8 0, .int .u8 0, .int .u8 0, .int .u8 0], .bool false]) ∧ Below w.heap.size w w' := by
 obtain ⟨W0, hW0⟩ := exq (w.alloc (.cells #[.int .i32 0, .int .i32 0, .int .i32 0, .int .u8 0, .int .u8 0, .int .u8 0, .int .u8 0] 65))
 have HB : Hid (Below w.heap.size w W0) := by unfold Hid; rw [← hW0]; exact (Below.refl _ _).alloc (Nat.le_refl _) _
 have HX : Hid (Whole W0 w.heap.size 65 [.int .i32 0, .int .i32 0, .int .i32 0, .int .u8 0, .int .u8 0, .int .u8 0, .int .u8 0]) := by unfold Hid; rw [← hW0]; exact Whole.new _ _ _
 have HG := hide (h.later HB.out)
 have HW0 := hide hW0
 obtain ⟨z0, z1, z2, z3, z4, z5, z6, lz⟩ := cells7 HX.out
 have hz := HX.out.frozen
 clear hW0 h
 by_cases hr : hasG R r
 ·obtain ⟨q, hq⟩ : ∃ q : Nat, r = (q : Int) := ⟨r.toNat, by unfold hasG at hr; omega⟩
  subst hq
  have hqR : q < R := by unfold hasG at hr; omega
  obtain ⟨cap, ps, room, more, ha⟩ := HG.out
  obtain ⟨c0, c1, c2, lG, lL, lM⟩ := ha.three
  have c3 := ha.row hqR
  clear ha
  by_cases h0 : c < 0
  ·clear hno hr
   go_enter Tryz.func28, Tryz.ntmps28
   go_wp2_with fail
   rw [HW0.out]
   refine (has_any HG.out q).mono ?_
   rintro e w1 ⟨rfl, rfl⟩
   rw [hasG_in hqR]
   go_wp2
   refine ret72 Tryz.results28 (.inl rfl) rfl rfl rfl (put7 HX.out _ _ _ _ _ _ _) ⟨rfl, below_put7 HB.out (Nat.le_refl _) _ _ _ _ _ _ _⟩
  ·have h1 : (C : Int) ≤ c := by have : ¬ (0 ≤ c ∧ c < (C : Int)) := fun q => hno ⟨hr, q⟩; omega
   clear hno hr
   go_enter Tryz.func28, Tryz.ntmps28
   go_wp2_with fail
   rw [HW0.out]
   refine (has_any HG.out q).mono ?_
   rintro e w1 ⟨rfl, rfl⟩
   rw [hasG_in hqR]
   go_wp2
   refine ret72 Tryz.results28 (.inl rfl) rfl rfl rfl (put7 HX.out _ _ _ _ _ _ _) ⟨rfl, below_put7 HB.out (Nat.le_refl _) _ _ _ _ _ _ _⟩
 ·have HD : Hid (decide (hasG R r) = false) := by unfold Hid; simp [hr]
  clear hno hr
  go_enter Tryz.func28, Tryz.ntmps28
  go_wp2_with fail
  rw [HW0.out]
  refine (has_any HG.out r).mono ?_
  rintro e w1 ⟨rfl, rfl⟩
  rw [HD.out]
  go_wp2
  refine ret72 Tryz.results28 (.inl rfl) rfl rfl rfl (put7 HX.out _ _ _ _ _ _ _) ⟨rfl, below_put7 HB.out (Nat.le_refl _) _ _ _ _ _ _ _⟩
end
theorem Lns.whole {w : World} {b : Nat} {ls : List (List Cel)} (h : Lns w (some ⟨b, 0, none⟩) ls) (h1 : 1 ≤ ls.length) : ∃ l, Whole w b 85 l := by
 rcases h with rfl | ⟨b', cur, e, hh, _⟩
 ·simp at h1
 ·cases e
  exact ⟨cur.toList, by unfold Whole; simpa using hh⟩
theorem Lns.there {w : World} {b : Nat} {ls : List (List Cel)} (h : Lns w (some ⟨b, 0, none⟩) ls) {i : Nat} (hi : i < ls.length) : ∃ x, w.cell? ⟨b, i, none⟩ = some x := by
 obtain ⟨b', A', c', e, _, hc, _⟩ := h.at hi
 cases e
 exact ⟨_, hc⟩
theorem Lns.set {w : World} {b : Nat} {ls : List (List Cel)} (h : Lns w (some ⟨b, 0, none⟩) ls) {r : Nat} (hr : r < ls.length) {x : Value} {z : List Cel} (hx : RowOk w x z) : Lns (w.setCell ⟨b, r, none⟩ x) (some ⟨b, 0, none⟩) (ls.set r z) := by
 have hs : Stays 95 w (w.setCell ⟨b, r, none⟩ x) := by
  obtain ⟨l, hw⟩ := h.whole (by omega)
  exact Stays.put hw (by decide)
 rcases h with rfl | ⟨b', cur, e, hh, hc⟩
 ·simp at hr
 ·cases e
  have hw : Whole w b 85 cur.toList := by unfold Whole; simpa using hh
  have hlen : ∀ i, i < ls.length → i < cur.toList.length := by
   intro i hi
   obtain ⟨y, hy, _⟩ := hc i hi
   simpa using (Array.getElem?_eq_some_iff.1 hy).1
  refine .inr ⟨b, (cur.toList.set r x).toArray, rfl, hw.put r x, fun i hi => ?_⟩
  rw [List.length_set] at hi
  rw [set_lAt _ _ _ _ hi]
  by_cases q : i = r
  ·subst q
   refine ⟨x, ?_, ?_⟩
   ·have hl := hlen i hi
    rw [List.getElem?_toArray, List.getElem?_set, if_pos rfl, if_pos hl]
   ·rw [if_pos rfl]; exact hx.keep hs
  ·obtain ⟨y, hy, hyo⟩ := hc i hi
   refine ⟨y, ?_, ?_⟩
   ·rw [List.getElem?_toArray, List.getElem?_set, if_neg (Ne.symm q)]
    simpa using hy
   ·rw [if_neg q]; exact hyo.keep hs
def fitTo (g : Gd) (R0 C0 k : Nat) : List (List Cel) := gtab R0 (fun i => if i < k then fitC (lAt g.ls i) (C0 : Int) else newC (C0 : Int))
theorem fitTo_len (g : Gd) (R0 C0 k : Nat) : (fitTo g R0 C0 k).length = R0 := gtab_len _ _
theorem fitTo_next (g : Gd) (R0 C0 k : Nat) : (fitTo g R0 C0 k).set k (fitC (lAt g.ls k) (C0 : Int)) = fitTo g R0 C0 (k + 1) := by
 rw [set_gtab, fitTo_len]
 refine gtab_eq fun i hi => ?_
 unfold fitTo
 rw [gtab_lAt _ _ _ hi]
 by_cases q : i = k
 ·rw [if_pos q, if_pos (by omega), q]
 ·rw [if_neg q]
  by_cases q2 : i < k
  ·rw [if_pos q2, if_pos (by omega)]
  ·rw [if_neg q2, if_neg (by omega)]
theorem fitTo_end (g : Gd) (R0 C0 k : Nat) (h : R0 ≤ k ∨ g.ls.length ≤ k) : fitTo g R0 C0 k = gtab R0 (fitAtG g.ls C0) := by
 refine gtab_eq fun i hi => ?_
 rw [fitAtG_is]
 by_cases q : i < k
 ·rw [if_pos q]
 ·rw [if_neg q, show lAt g.ls i = [] by unfold lAt; rw [List.getD_eq_getElem?_getD, List.getElem?_eq_none (by omega)]; rfl, fit_nil]
theorem rgnew_v (R C : Nat) (hR1 : 1 ≤ R) (hR : R ≤ 512) (w : World) : Calls Tryz.prog 34 #[.int .i64 R, .int .i64 C] w fun e w' => ∃ b cap, e = .returned (.agg #[.slice (some ⟨b, 0, none⟩) R cap, .int .i64 0, .int .i64 0]) ∧ Lns w' (some ⟨b, 0, none⟩) (newG R C).ls ∧ Below w.heap.size w w' ∧ w.heap.size ≤ b :=
 (rgnew_any R C hR1 hR w).mono fun e w' ⟨b, cap, he, h⟩ => ⟨b, cap, he, h⟩
theorem rgfit_any (A : Option Addr) (R C cap : Nat) (g : Gd) (w : World) (h : Lns w A g.ls) (hok : GOk g R C) (R0 C0 : Nat) (r1 : 1 ≤ R0) (r2 : R0 ≤ 512) (c1 : 1 ≤ C0) (c2 : C0 ≤ 512) :
  Calls Tryz.prog 44 #[.agg #[.slice A R cap, .int .i64 g.row, .int .i64 g.col], .int .i64 R0, .int .i64 C0] w (GaveD R0 (fitG g R0 C0) w) := by
 obtain ⟨W0, hW0⟩ := exq ((w.alloc (.cells #[.slice A R cap, .int .i64 g.row, .int .i64 g.col] 26)).alloc (.cells #[.slice none 0 0, .int .i64 0, .int .i64 0] 26))
 have HB0 : Hid (Below w.heap.size w W0) := by unfold Hid; rw [← hW0]; exact two_new _ _ _ _ _
 have HX0 : Hid (Whole W0 (w.heap.size) 26 [.slice A R cap, .int .i64 g.row, .int .i64 g.col]) := by unfold Hid; rw [← hW0]; exact ((Whole.new _ _ _).alloc _)
 have HX1 : Hid (Whole W0 (w.heap.size + 1) 26 [.slice none 0 0, .int .i64 0, .int .i64 0]) := by unfold Hid; rw [← hW0]; exact (whole_snd _ _ _ _)
 have HW0 := hide hW0; clear hW0; have HL := hide h
 have hR1 := hok.r1
 have hR2 := hok.r2
 have hC2 := hok.c2
 have HGO := hide hok; have HLen := hide hok.len; clear h hok
 go_enter Tryz.func44, Tryz.ntmps44
 go_wp2_with fail
 rw [HW0.out]
 refine (rgnew_v R0 C0 r1 r2 W0).mono ?_
 rintro e w1 ⟨b, cap1, rfl, hl, hb, hfb⟩
 obtain ⟨W1, hW1⟩ := exq (w1.alloc (.cells #[.slice (some ⟨b, 0, none⟩) R0 cap1, .int .i64 0, .int .i64 0] 26))
 obtain ⟨Q, hQ⟩ := exq (w1.heap.size)
 have HB1 : Hid (Below w.heap.size w W1) := by unfold Hid; rw [← hW1]; have q := HB0.out.trans (hb.mono HB0.out.size); exact q.alloc q.size _
 have HO1 : Hid (Whole W1 Q 26 [.slice (some ⟨b, 0, none⟩) R0 cap1, .int .i64 0, .int .i64 0]) := by unfold Hid; rw [← hW1, ← hQ]; exact Whole.new _ _ _
 have HP1 : Hid (Whole W1 w.heap.size 26 [.slice A R cap, .int .i64 g.row, .int .i64 g.col]) := by unfold Hid; rw [← hW1]; exact (HX0.out.later hb).alloc _
 have HZ1 : Hid (Whole W1 (w.heap.size + 1) 26 [.slice none 0 0, .int .i64 0, .int .i64 0]) := by unfold Hid; rw [← hW1]; exact (HX1.out.later hb).alloc _
 have HNw1 : Hid (Lns W1 (some ⟨b, 0, none⟩) (fitTo g R0 C0 0)) := by
  unfold Hid
  have e : fitTo g R0 C0 0 = (newG R0 C0).ls := gtab_eq fun i hi => by rw [if_neg (by omega)]
  rw [← hW1, e]
  exact hl.alloc _
 have HFb : Hid (w.heap.size ≤ b) := by unfold Hid; exact Nat.le_trans HB0.out.size hfb
 have HW1 := hide hW1; have HQ := hide hQ; clear hl hb hfb hW1 hQ; go_wp2
 rw [HW1.out, HQ.out]
 go_loopw [8] (fun i wr => ∃ (k : Nat), (k ≤ R0 ∧ k ≤ R) ∧ i = .int .i64 k ∧ Lns wr (some ⟨b, 0, none⟩) (fitTo g R0 C0 k) ∧ Whole wr Q 26 [.slice (some ⟨b, 0, none⟩) R0 cap1, .int .i64 0, .int .i64 0] ∧ Whole wr w.heap.size 26 [.slice A R cap, .int .i64 g.row, .int .i64 g.col] ∧ Whole wr (w.heap.size + 1) 26 [.slice none 0 0, .int .i64 0, .int .i64 0] ∧ Below w.heap.size w wr) (fun i _ => R0 - (intOf i).toNat)
 case atStart => exact ⟨0, ⟨Nat.zero_le _, Nat.zero_le _⟩, rfl, HNw1.out, HO1.out, HP1.out, HZ1.out, HB1.out⟩
 case round =>
  obtain ⟨k, ⟨hk0, hk1⟩, rfl, hn, ho, hp, hz, hb⟩ := hrel
  have HNw := hide hn; have HO := hide ho; have HP := hide hp; have HZ := hide hz; have HB := hide hb; clear hn ho hp hz hb
  obtain ⟨p0, p1, p2, lp⟩ := cells3 HP.out
  obtain ⟨o0, o1, o2, lo⟩ := cells3 HO.out
  by_cases hlt : k < R0
  ·by_cases hlt2 : k < R
   ·obtain ⟨b1, A', c', rfl, lb1, hcell, -, hcels, hA'⟩ := (HL.out.below HB.out).at (i := k) (by rw [HLen.out]; exact hlt2)
    have HCr := hide hcels
    have HNr := hide ((HGO.out.each k hlt2).1)
    clear hcels; go_wp2
    refine rgL (fun w' => Below wr.heap.size wr w') 11 [(0, 2), (0, 5), (0, 8), (0, 0), (0, 3), (0, 1), (1, 4), (1, 6), (1, 7), (1, 9), (1, 10), (3, 11)] bd1 ?_
    iterate 5 refine stL (h := ?_)
    refine stL (hy := fun w hS => by obtain ⟨e0, e1, e2, -⟩ := cells3 (HO.out.later hS); go_simp <;> with_reducible rfl) (h := ?_)
    refine alL fun K hK => ?_
    go_wp2
    refine hK.out _ _ bd1 ?_
    clear hK K
    refine alL fun K hK => ?_
    go_wp2
    refine hK.out _ _ bd1 ?_
    clear hK K
    refine alL fun K hK => ?_
    go_wp2
    refine hK.out _ _ bd1 ?_
    clear hK K
    refine alL fun K hK => ?_
    go_wp2_with fail
    refine (rlfit_any A' _ c' (C0 : Int) _ _ HCr.out.drew rfl (by rw [HNr.out]; omega)).mono ?_
    rintro e k1 ⟨x, rfl, hx⟩
    have HX := hide hx.rowOk
    have Bk1 : Below wr.heap.size wr k1 := ((Below.refl wr.heap.size wr).drewN 1).trans hx.bel
    obtain ⟨Ax, cx, rfl, -⟩ := hx.rowOk
    have HN1 := hide (HNw.out.below Bk1)
    have HP1 := hide (HP.out.later Bk1)
    have HZ1 := hide (HZ.out.later Bk1)
    have HO1 := hide (HO.out.later Bk1)
    have HB1 := hide (HB.out.trans (Bk1.mono HB.out.size))
    clear hx p0 p1 p2 lp o0 o1 o2 lo
    obtain ⟨l9, hw9⟩ := HN1.out.whole (by rw [fitTo_len]; omega)
    have hzf := hw9.frozen
    have lb9 := hw9.lt
    obtain ⟨x0, hx0⟩ := HN1.out.there (i := k) (by rw [fitTo_len]; exact hlt)
    go_wp2
    refine hK.out _ _ (Bk1) ?_
    clear hK K
    refine alL fun K hK => ?_
    go_wp2
    refine hK.out _ _ (Bk1) ?_
    clear hK K
    refine laL fun K hK => ?_
    go_wp2
    refine hK.out _ _ ?_
    clear hK K
    refine chainL_nil ?_
    have HN2 : Hid (Lns (k1.setCell ⟨b, k, none⟩ (.slice Ax (fitC (lAt g.ls k) (C0 : Int)).length cx)) (some ⟨b, 0, none⟩) (fitTo g R0 C0 (k + 1))) := by unfold Hid; rw [← fitTo_next]; exact HN1.out.set (by rw [fitTo_len]; exact hlt) HX.out
    have HO2 := hide (HO1.out.far (Only.put (g := b) k (.slice Ax (fitC (lAt g.ls k) (C0 : Int)).length cx)) (HO1.out.ne hw9 (by decide)))
    have HP2 := hide (HP1.out.far (Only.put (g := b) k (.slice Ax (fitC (lAt g.ls k) (C0 : Int)).length cx)) (HP1.out.ne hw9 (by decide)))
    have HZ2 := hide (HZ1.out.far (Only.put (g := b) k (.slice Ax (fitC (lAt g.ls k) (C0 : Int)).length cx)) (HZ1.out.ne hw9 (by decide)))
    have HB2 := hide (HB1.out.setCell (p := ⟨b, k, none⟩) HFb.out (.slice Ax (fitC (lAt g.ls k) (C0 : Int)).length cx))
    clear hzf lb9 hx0 hw9 Bk1 hcell; go_wp2
    go_roundw
    case rel => exact ⟨k + 1, ⟨by omega, by omega⟩, by go_num, HN2.out, HO2.out, HP2.out, HZ2.out, HB2.out⟩
    case measure => simp [intOf]; omega
   ·obtain rfl : k = R := by omega
    have HE := hide (fitTo_end g R0 C0 k (.inr (by rw [HLen.out]; exact Nat.le_refl _)))
    have HM : Hid (moveG ⟨fitTo g R0 C0 k, 0, 0⟩ (g.row : Int) (g.col : Int) C0 = fitG g R0 C0) := by unfold Hid moveG fitG; rw [show (⟨fitTo g R0 C0 k, 0, 0⟩ : Gd).ls = fitTo g R0 C0 k from rfl, fitTo_len, HE.out]
    have HC00 : Hid ((lAt (fitTo g R0 C0 k) 0).length = C0) := by
     unfold Hid fitTo
     rw [gtab_lAt _ _ _ (by omega)]
     split
     ·rw [fit_len, lenN_nat C0 c2]
     ·exact newC_len C0 c2
    go_wp2_with fail
    refine (rgmove_any (some ⟨b, 0, none⟩) R0 C0 cap1 ⟨fitTo g R0 C0 k, 0, 0⟩ wr HNw.out (fitTo_len _ _ _ _) r1 r2 c1 c2 HC00.out g.row g.col).mono ?_
    rintro e k2 ⟨A2, cap2, rfl, hl, hb⟩
    have HL3 := hide hl
    have HZ3 := hide (HZ.out.later hb)
    have HB3 := hide (HB.out.trans (hb.mono HB.out.size))
    clear hl hb p0 p1 p2 lp o0 o1 o2 lo
    rw [HM.out] at HL3 ⊢
    obtain ⟨z0, z1, z2, lz⟩ := cells3 HZ3.out
    have hzf := HZ3.out.frozen
    go_wp2
    exact retG Tryz.results44 rfl rfl (put3 HZ3.out _ _ _) ⟨A2, cap2, rfl, HL3.out.put3 HZ3.out (by decide) (by decide) _ _ _, below_put3 HB3.out (by omega) _ _ _⟩
  ·obtain rfl : k = R0 := by omega
   have HE := hide (fitTo_end g k C0 k (.inl (Nat.le_refl _)))
   have HM : Hid (moveG ⟨fitTo g k C0 k, 0, 0⟩ (g.row : Int) (g.col : Int) C0 = fitG g k C0) := by unfold Hid moveG fitG; rw [show (⟨fitTo g k C0 k, 0, 0⟩ : Gd).ls = fitTo g k C0 k from rfl, fitTo_len, HE.out]
   have HC00 : Hid ((lAt (fitTo g k C0 k) 0).length = C0) := by
    unfold Hid fitTo
    rw [gtab_lAt _ _ _ (by omega)]
    split
    ·rw [fit_len, lenN_nat C0 c2]
    ·exact newC_len C0 c2
   go_wp2_with fail
   refine (rgmove_any (some ⟨b, 0, none⟩) k C0 cap1 ⟨fitTo g k C0 k, 0, 0⟩ wr HNw.out (fitTo_len _ _ _ _) r1 r2 c1 c2 HC00.out g.row g.col).mono ?_
   rintro e k2 ⟨A2, cap2, rfl, hl, hb⟩
   have HL3 := hide hl
   have HZ3 := hide (HZ.out.later hb)
   have HB3 := hide (HB.out.trans (hb.mono HB.out.size))
   clear hl hb p0 p1 p2 lp o0 o1 o2 lo
   rw [HM.out] at HL3 ⊢
   obtain ⟨z0, z1, z2, lz⟩ := cells3 HZ3.out
   have hzf := HZ3.out.frozen
   go_wp2
   exact retG Tryz.results44 rfl rfl (put3 HZ3.out _ _ _) ⟨A2, cap2, rfl, HL3.out.put3 HZ3.out (by decide) (by decide) _ _ _, below_put3 HB3.out (by omega) _ _ _⟩
theorem rgsame_any (A A' : Option Addr) (R R' cap cap' : Nat) (g g' : Gd) (w : World) (h : Lns w A g.ls) (h' : Lns w A' g'.ls) (hR : g.ls.length = R) (hR' : g'.ls.length = R') (hR2 : R ≤ 512) (hln : ∀ i, i < R → (lAt g.ls i).length ≤ 1000000) :
  Calls Tryz.prog 50 #[.agg #[.slice A R cap, .int .i64 g.row, .int .i64 g.col], .agg #[.slice A' R' cap', .int .i64 g'.row, .int .i64 g'.col]] w (Said (sameG g g') w) := by
 obtain ⟨W0, hW0⟩ := exq ((w.alloc (.cells #[.slice A R cap, .int .i64 g.row, .int .i64 g.col] 26)).alloc (.cells #[.slice A' R' cap', .int .i64 g'.row, .int .i64 g'.col] 26))
 have HB0 : Hid (Below w.heap.size w W0) := by unfold Hid; rw [← hW0]; exact two_new _ _ _ _ _
 have HX0 : Hid (Whole W0 (w.heap.size) 26 [.slice A R cap, .int .i64 g.row, .int .i64 g.col]) := by unfold Hid; rw [← hW0]; exact ((Whole.new _ _ _).alloc _)
 have HX1 : Hid (Whole W0 (w.heap.size + 1) 26 [.slice A' R' cap', .int .i64 g'.row, .int .i64 g'.col]) := by unfold Hid; rw [← hW0]; exact (whole_snd _ _ _ _)
 have HW0 := hide hW0; clear hW0; have HL := hide h
 have HL' := hide h'
 have HLen := hide hR
 have HLen' := hide hR'
 have HLn := hide hln
 obtain ⟨p0, p1, p2, lp⟩ := cells3 HX0.out
 obtain ⟨q0, q1, q2, lq⟩ := cells3 HX1.out
 clear h h' hln
 by_cases hne : R = R'
 ·have e1 : ((R : Int) != (R' : Int)) = false := by simp [hne]
  by_cases hrow : g.row = g'.row
  ·have e2 : ((g.row : Int) != (g'.row : Int)) = false := by simp [hrow]
   by_cases hcol : g.col = g'.col
   ·have e3 : ((g.col : Int) != (g'.col : Int)) = false := by simp [hcol]
    have HS : Hid (sameG g g' = decide (g.ls = g'.ls)) := by unfold Hid sameG; simp [hrow, hcol]
    have HRR := hide hne
    have HQ := hide (ls_eq (n := R) hR (by rw [hR', hne]))
    clear hrow hcol hR hR' hne
    go_enter Tryz.func50, Tryz.ntmps50
    go_wp2; rw [HW0.out]; clear p0 p1 p2 lp q0 q1 q2 lq
    go_loopw [5] (fun i wr => ∃ k : Nat, k ≤ R ∧ i = .int .i64 k ∧ Below W0.heap.size W0 wr ∧ ∀ q, q < k → lAt g.ls q = lAt g'.ls q) (fun i _ => R - (intOf i).toNat)
    case atStart => exact ⟨0, Nat.zero_le _, rfl, Below.refl _ _, fun q hq => by omega⟩
    case round =>
     obtain ⟨k, hk, rfl, hb, hall⟩ := hrel
     have HB := hide hb; have HAll := hide hall; clear hb hall
     have HP := hide (HX0.out.later HB.out)
     have HP' := hide (HX1.out.later HB.out)
     obtain ⟨p0, p1, p2, lp⟩ := cells3 HP.out
     obtain ⟨q0, q1, q2, lq⟩ := cells3 HP'.out
     by_cases hlt : k < R
     ·have hlt' : k < R' := by rw [← HRR.out]; exact hlt
      obtain ⟨b1, A1, c1, rfl, lb1, hc1, -, hr1, -⟩ := (HL.out.below (HB0.out.trans (HB.out.mono HB0.out.size))).at (i := k) (by rw [HLen.out]; exact hlt)
      obtain ⟨b2, A2, c2, rfl, lb2, hc2, -, hr2, -⟩ := (HL'.out.below (HB0.out.trans (HB.out.mono HB0.out.size))).at (i := k) (by rw [HLen'.out]; exact hlt')
      have HR1 := hide hr1; have HR2 := hide hr2
      have HLk := hide (HLn.out k hlt)
      clear hr1 hr2
      by_cases hq : lAt g.ls k = lAt g'.ls k
      ·have HE : Hid (decide (lAt g.ls k = lAt g'.ls k) = true) := by unfold Hid; simpa using hq
       have HKQ := hide hq; clear hq; go_wp2
       refine rgL (fun w' => Below wr.heap.size wr w') 10 [(0, 2), (0, 7), (0, 0), (0, 5), (0, 1), (0, 3), (0, 4), (1, 6), (1, 8), (1, 9), (3, 10), (3, 11)] bd1 ?_
       iterate 4 refine stL (h := ?_)
       refine stL (hy := fun w hS => by obtain ⟨e0, e1, e2, -⟩ := cells3 (HP.out.later hS); go_simp <;> with_reducible rfl) (h := ?_)
       refine stL (h := ?_)
       refine stL (hy := fun w hS => by have f0 : w.cell? ⟨b1, k, none⟩ = some (.slice A1 (lAt g.ls k).length c1) := (hS.cell (p := ⟨b1, k, none⟩) lb1).trans hc1; go_simp <;> with_reducible rfl) (h := ?_)
       refine alL fun K hK => ?_
       go_wp2
       refine hK.out _ _ bd1 ?_
       clear hK K
       refine alL fun K hK => ?_
       go_wp2
       refine hK.out _ _ bd1 ?_
       clear hK K
       refine alL fun K hK => ?_
       go_wp2
       refine hK.out _ _ bd1 ?_
       clear hK K
       refine laL fun K hK => ?_
       go_wp2_with fail
       refine (rsame6_any A1 A2 _ c1 _ c2 _ _ _ HR1.out.drew HR2.out.drew rfl rfl HLk.out).mono ?_
       rintro e k1 ⟨rfl, hb⟩
       rw [HE.out]
       have Bk1 : Below wr.heap.size wr k1 := ((Below.refl wr.heap.size wr).drewN 1).trans hb
       clear hb; go_wp2
       refine hK.out _ _ ?_
       clear hK K
       refine laL fun K hK => ?_
       go_wp2
       refine hK.out _ _ ?_
       clear hK K
       refine chainL_nil ?_
       have HB1 := hide (HB.out.trans (Bk1.mono HB.out.size))
       clear Bk1 p0 p1 p2 lp q0 q1 q2 lq hc1 hc2 lb1 lb2; go_wp2
       go_roundw
       case rel => exact ⟨k + 1, by omega, by go_num, HB1.out, fun q hq => by
        by_cases e : q = k
        ·rw [e]; exact HKQ.out
        ·exact HAll.out q (by omega)⟩
       case measure => simp [intOf]; omega
      ·have HE : Hid (decide (lAt g.ls k = lAt g'.ls k) = false) := by unfold Hid; simpa using hq
       have HN : Hid (sameG g g' = false) := by
        unfold Hid
        rw [HS.out, decide_eq_false_iff_not]
        intro e
        exact hq (by rw [e])
       clear hq; go_wp2
       refine rgL (fun w' => Below wr.heap.size wr w') 10 [(0, 2), (0, 7), (0, 0), (0, 5), (0, 1), (0, 3), (0, 4), (1, 6), (1, 8), (1, 9), (3, 10), (3, 11)] bd1 ?_
       iterate 4 refine stL (h := ?_)
       refine stL (hy := fun w hS => by obtain ⟨e0, e1, e2, -⟩ := cells3 (HP.out.later hS); go_simp <;> with_reducible rfl) (h := ?_)
       refine stL (h := ?_)
       refine stL (hy := fun w hS => by have f0 : w.cell? ⟨b1, k, none⟩ = some (.slice A1 (lAt g.ls k).length c1) := (hS.cell (p := ⟨b1, k, none⟩) lb1).trans hc1; go_simp <;> with_reducible rfl) (h := ?_)
       refine alL fun K hK => ?_
       go_wp2
       refine hK.out _ _ bd1 ?_
       clear hK K
       refine alL fun K hK => ?_
       go_wp2
       refine hK.out _ _ bd1 ?_
       clear hK K
       refine alL fun K hK => ?_
       go_wp2
       refine hK.out _ _ bd1 ?_
       clear hK K
       refine laL fun K hK => ?_
       go_wp2_with fail
       refine (rsame6_any A1 A2 _ c1 _ c2 _ _ _ HR1.out.drew HR2.out.drew rfl rfl HLk.out).mono ?_
       rintro e k1 ⟨rfl, hb⟩
       rw [HE.out]
       have Bk1 : Below wr.heap.size wr k1 := ((Below.refl wr.heap.size wr).drewN 1).trans hb
       clear hb; go_wp2
       refine hK.out _ _ ?_
       clear hK K
       refine laL fun K hK => ?_
       go_wp2
       refine hK.out _ _ ?_
       clear hK K
       refine chainL_nil ?_
       have HB1 := hide (HB.out.trans (Bk1.mono HB.out.size))
       clear Bk1 p0 p1 p2 lp q0 q1 q2 lq hc1 hc2 lb1 lb2; go_wp2; go_ret
       exact ⟨ret_bool HN.out.symm, HB0.out.trans (HB1.out.mono HB0.out.size)⟩
     ·have HY : Hid (sameG g g' = true) := by unfold Hid; rw [HS.out]; exact HQ.out.2 fun i hi => HAll.out i (by omega)
      go_wp2; go_ret
      exact ⟨ret_bool HY.out.symm, HB0.out.trans (HB.out.mono HB0.out.size)⟩
   ·have e3 : ((g.col : Int) != (g'.col : Int)) = true := by simp; omega
    have HS : Hid (sameG g g' = false) := by unfold Hid sameG; simp [hcol]
    clear hrow hcol hR hR' hne
    go_enter Tryz.func50, Tryz.ntmps50
    go_wp2; go_ret; rw [HW0.out]
    exact ⟨ret_bool HS.out.symm, HB0.out⟩
  ·have e2 : ((g.row : Int) != (g'.row : Int)) = true := by simp; omega
   have HS : Hid (sameG g g' = false) := by unfold Hid sameG; simp [hrow]
   clear hrow hR hR' hne
   go_enter Tryz.func50, Tryz.ntmps50
   go_wp2; go_ret; rw [HW0.out]
   exact ⟨ret_bool HS.out.symm, HB0.out⟩
 ·have e1 : ((R : Int) != (R' : Int)) = true := by simp; omega
  have HS : Hid (sameG g g' = false) := by
   unfold Hid sameG
   rw [Bool.and_eq_false_iff]
   right
   rw [decide_eq_false_iff_not]
   intro e
   rw [e, hR'] at hR
   exact hne hR.symm
  clear hR hR' hne
  go_enter Tryz.func50, Tryz.ntmps50
  go_wp2; go_ret; rw [HW0.out]
  exact ⟨ret_bool HS.out.symm, HB0.out⟩
theorem gof_any {G L M R C : Nat} {g : Gd} {w : World} (h : Grd w G L M R C g) (hok : GOk g R C) : Calls Tryz.prog 51 #[.pointer (some ⟨G, 0, none⟩)] w (GaveD R g w) := by
 obtain ⟨W0, hW0⟩ := exq ((w.alloc (.cells #[.slice none 0 0, .int .i64 0, .int .i64 0] 26)).alloc (.cells #[.slice none 0 0, .int .i64 0, .int .i64 0] 26))
 have HB0 : Hid (Below w.heap.size w W0) := by unfold Hid; rw [← hW0]; exact two_new _ _ _ _ _
 have HX0 : Hid (Whole W0 (w.heap.size) 26 [.slice none 0 0, .int .i64 0, .int .i64 0]) := by unfold Hid; rw [← hW0]; exact ((Whole.new _ _ _).alloc _)
 have HX1 : Hid (Whole W0 (w.heap.size + 1) 26 [.slice none 0 0, .int .i64 0, .int .i64 0]) := by unfold Hid; rw [← hW0]; exact (whole_snd _ _ _ _)
 have HW0 := hide hW0; clear hW0; have HG := hide h
 have hR1 := hok.r1
 have hR2 := hok.r2
 have hC2 := hok.c2
 have HGO := hide hok; have HLen := hide hok.len; clear h hok
 go_enter Tryz.func51, Tryz.ntmps51
 go_wp2; rw [HW0.out]
 go_loopw [4] (fun i wr => ∃ (k : Nat) (v : Value), k ≤ R ∧ i = .int .i64 k ∧ RwsC w.heap.size w wr v (gtab k (lAt g.ls)) ∧ Whole wr (w.heap.size + 1) 26 [v, .int .i64 0, .int .i64 0] ∧ Whole wr w.heap.size 26 [.slice none 0 0, .int .i64 0, .int .i64 0]) (fun i _ => R - (intOf i).toNat)
 case atStart => exact ⟨0, _, Nat.zero_le _, rfl, RwsC.from0 HB0.out.size HB0.out, HX1.out, HX0.out⟩
 case round =>
  obtain ⟨k, v, hk, rfl, hv, hq, hp⟩ := hrel
  have HV := hide hv; have HQ := hide hq; have HP := hide hp
  obtain ⟨Av, cv, rfl, -⟩ := hv.form
  rw [gtab_len] at HV HQ hq
  clear hv hp
  have HR := hide (rows_any (HG.out.later HV.out.bel))
  by_cases hlt : k < R
  ·have HNr := hide (HGO.out.each k hlt).1
   have HLB := hide (HGO.out.each k hlt).2.2
   clear hq; go_wp2_with fail
   refine HR.out.mono ?_
   rintro e w1 ⟨rfl, rfl⟩
   go_wp2
   refine rgL (fun w' => Below wr.heap.size wr w') 7 [(0, 2), (0, 3), (0, 0), (0, 1), (1, 4), (1, 5), (1, 6), (3, 7), (3, 8), (3, 9)] bd1 ?_
   iterate 3 refine stL (h := ?_)
   refine stL (hy := fun w hS => by obtain ⟨b0, b1, b2, -⟩ := cells3 (HQ.out.later hS); go_simp <;> with_reducible rfl) (h := ?_)
   refine alL fun K hK => ?_
   go_wp2_with fail
   refine (gline_any (HG.out.later (HV.out.bel.drewN 1)) k (by unfold hasG; omega) (by omega)).mono ?_
   rintro e k1 ⟨x, rfl, hx⟩
   rw [Int.toNat_natCast] at hx
   obtain ⟨A1, c1, rfl, hc1, -⟩ := hx.form
   have Bk1 : Below wr.heap.size wr k1 := bd1.trans hx.bel
   have HC1 := hide hc1
   rw [HNr.out]
   clear hx hc1; go_wp2
   refine hK.out _ _ (Bk1) ?_
   clear hK K
   refine alL fun K hK => ?_
   go_wp2_with fail
   refine (lineof_any A1 C c1 _ k1 HC1.out HNr.out (by omega) HLB.out).mono ?_
   rintro e k2 ⟨x, rfl, hx⟩
   have Bk2 : Below wr.heap.size wr k2 := Bk1.trans (hx.bel.mono Bk1.size)
   have HX := hide hx.rowOk
   have HV1 := hide (HV.out.later Bk2)
   have HQ1 := hide (HQ.out.later Bk2)
   have HP1 := hide (HP.out.later Bk2)
   obtain ⟨Ax, cx, rfl, -⟩ := hx.rowOk
   clear hx; go_wp2
   refine hK.out _ _ (Bk2) ?_
   clear hK K
   refine alL fun K hK => ?_
   go_wp2
   refine hK.out _ _ (Bk2.alloc Bk2.size _) ?_
   clear hK K
   refine laL fun K hK => ?_
   go_wp2_with (at_builtin; refine stopw ?_)
   unfold Hid
   refine wpList_pushL rfl _ _ rfl rfl rfl HV1.out HX.out (by rw [gtab_len]; omega) ?_
   intro v2 w2 hown hoth
   have HV2 : Hid (RwsC w.heap.size w w2 v2 (gtab (k + 1) (lAt g.ls))) := by unfold Hid; rw [gtab_snoc]; exact hown
   have HQ2 := hide (hoth _ _ _ (by decide) HQ1.out)
   have HP2 := hide (hoth _ _ _ (by decide) HP1.out)
   clear hown hoth
   obtain ⟨A2, cap2, rfl, -⟩ := HV2.out.form
   rw [gtab_len] at HV2 ⊢
   obtain ⟨d0, d1, d2, ld⟩ := cells3 HQ2.out
   have hz := HQ2.out.frozen
   go_wp2
   refine hK.out _ _ ?_
   clear hK K
   refine laL fun K hK => ?_
   go_wp2
   refine hK.out _ _ ?_
   clear hK K
   refine laL fun K hK => ?_
   go_wp2
   refine hK.out _ _ ?_
   clear hK K
   refine chainL_nil ?_
   have HQ3 := hide (HQ2.out.put 0 (.slice A2 (k + 1) cap2))
   have HP3 := hide (HP2.out.far (Only.put (g := w.heap.size + 1) 0 (.slice A2 (k + 1) cap2)) (by omega))
   have HV3 := hide (HV2.out.put (i := 0) (u := .slice A2 (k + 1) cap2) HQ2.out (by decide) (by decide) (by omega))
   clear d0 d1 d2 ld hz Bk1 Bk2; go_wp2
   go_roundw
   case rel => exact ⟨k + 1, _, by omega, by go_num, HV3.out, HQ3.out, HP3.out⟩
   case measure => simp [intOf]; omega
  ·obtain rfl : k = R := by omega
   have HCu := hide (row_any (HG.out.later HV.out.bel))
   have HCc := hide (col_any (HG.out.later HV.out.bel))
   have hqf := hq.frozen
   obtain ⟨b0, b1, b2, lb⟩ := cells3 hq
   obtain ⟨d0, d1, d2, ld⟩ := cells3 HP.out
   have hz := HP.out.frozen
   clear hq; go_wp2_with fail
   refine HR.out.mono ?_
   rintro e w1 ⟨rfl, rfl⟩
   go_wp2_with fail
   refine HCu.out.mono ?_
   rintro e w1 ⟨rfl, rfl⟩
   go_wp2_with fail
   refine HCc.out.mono ?_
   rintro e w1 ⟨rfl, rfl⟩
   obtain ⟨W3, hW3⟩ := exq ((wr.setCell ⟨w.heap.size + 1, 1, none⟩ (.int .i64 g.row)).setCell ⟨w.heap.size + 1, 2, none⟩ (.int .i64 g.col))
   have HQ3 : Hid (Whole W3 (w.heap.size + 1) 26 [.slice Av k cv, .int .i64 g.row, .int .i64 g.col]) := by unfold Hid; rw [← hW3]; exact (HQ.out.put 1 _).put 2 _
   have HP3 : Hid (Whole W3 w.heap.size 26 [.slice none 0 0, .int .i64 0, .int .i64 0]) := by unfold Hid; rw [← hW3]; exact HP.out.far ((Only.put (g := w.heap.size + 1) _ _).trans (Only.put _ _)) (by omega)
   have HV3 : Hid (RwsC w.heap.size w W3 (.slice Av k cv) (gtab k (lAt g.ls))) := by unfold Hid; rw [← hW3]; exact (HV.out.put (i := 1) HQ.out (by decide) (by decide) (by omega)).put (i := 2) (HQ.out.put 1 _) (by decide) (by decide) (by omega)
   have HF : Hid (gtab k (lAt g.ls) = g.ls) := by unfold Hid; rw [← HLen.out]; exact gtab_self _
   obtain ⟨f0, f1, f2, lf⟩ := cells3 HQ3.out
   obtain ⟨h0, h1, h2, lh⟩ := cells3 HP3.out
   have hz3 := HP3.out.frozen
   go_wp2
   refine retG Tryz.results51 rfl rfl (put3 HP3.out _ _ _) ⟨Av, cv, rfl, ?_, below_put3 HV3.out.bel (Nat.le_refl _) _ _ _⟩
   obtain ⟨A3, c3, e3, -, -, -, hL⟩ := HV3.out.form
   rw [gtab_len] at e3
   cases e3
   rw [HF.out] at hL
   exact hL.put3 HP3.out (by decide) (by decide) _ _ _
def Did (w : World) (G L M : Nat) (e : Ending) (w' : World) : Prop := ∃ g' R' C' G' L' M' A' cap', e = .returned (.tuple #[.pointer (some ⟨G', 0, none⟩), .agg #[.slice A' R' cap', .int .i64 ((g' : Gd).row : Int), .int .i64 g'.col], .bool true]) ∧
 Grd w' G' L' M' R' C' g' ∧ Lns w' A' g'.ls ∧ GOk g' R' C' ∧ Trn G L M w w' ∧ (G' = G ∨ w.heap.size ≤ G') ∧ (L' = L ∨ w.heap.size ≤ L') ∧ (M' = M ∨ w.heap.size ≤ M')
section
variable {w W : World} {G L M R C G' L' M' R' C' : Nat} {g g' : Gd}
theorem heap_put3 (w : World) (q : Nat) (x0 x1 x2 : Value) (i : Nat) (h : i ≠ q) : (((w.setCell ⟨q, 0, none⟩ x0).setCell ⟨q, 1, none⟩ x1).setCell ⟨q, 2, none⟩ x2).heap[i]? = w.heap[i]? := by
 rw [Below.heap_setCell _ _ _ _ (by simpa using h), Below.heap_setCell _ _ _ _ (by simpa using h), Below.heap_setCell _ _ _ _ (by simpa using h)]
theorem Grd.put3 (h : Grd W G L M R C g) {q : Nat} {l : List Value} (hq : Whole W q 26 l) (x0 x1 x2 : Value) : Grd (((W.setCell ⟨q, 0, none⟩ x0).setCell ⟨q, 1, none⟩ x1).setCell ⟨q, 2, none⟩ x2) G L M R C g := by
 obtain ⟨cap, ps, room, more, h⟩ := h
 exact ⟨cap, ps, room, more, h.same (heap_put3 _ _ _ _ _ _ (h.top.ne hq (by decide))) (heap_put3 _ _ _ _ _ _ (h.lines.ne hq (by decide))) (heap_put3 _ _ _ _ _ _ (h.piece.ne hq (by decide)))⟩
theorem Trn.put3 (h : Trn G L M w W) {q : Nat} (hq : w.heap.size ≤ q) (x0 x1 x2 : Value) : Trn G L M w (((W.setCell ⟨q, 0, none⟩ x0).setCell ⟨q, 1, none⟩ x1).setCell ⟨q, 2, none⟩ x2) :=
 ⟨h.os, h.tape, h.output, by simpa [World.setCell] using h.size, fun i hi h1 h2 h3 => (heap_put3 _ _ _ _ _ _ (by omega)).trans (h.block i hi h1 h2 h3)⟩
theorem Trn.thenB (h : Trn G L M w W) {W' : World} (hb : Below W.heap.size W W') : Trn G L M w W' := h.trans (L' := L) (Trn.of_below hb) (.inl rfl)
theorem did_end {A' : Option Addr} {cap' : Nat} (hg : Grd W G' L' M' R' C' g') (hl : Lns W A' g'.ls) (hok : GOk g' R' C') (ht : Trn G L M w W) (hG : G' = G ∨ w.heap.size ≤ G') (hL : L' = L ∨ w.heap.size ≤ L') (hM : M' = M ∨ w.heap.size ≤ M') {q : Nat} {l : List Value} (hz : Whole W q 26 l) (hq : w.heap.size ≤ q) (x0 x1 x2 : Value) :
  Did w G L M (.returned (.tuple #[.pointer (some ⟨G', 0, none⟩), .agg #[.slice A' R' cap', .int .i64 g'.row, .int .i64 g'.col], .bool true])) (((W.setCell ⟨q, 0, none⟩ x0).setCell ⟨q, 1, none⟩ x1).setCell ⟨q, 2, none⟩ x2) :=
 ⟨g', R', C', G', L', M', A', cap', rfl, hg.put3 hz _ _ _, hl.put3 hz (by decide) (by decide) _ _ _, hok, ht.put3 hq _ _ _, hG, hL, hM⟩
end
theorem Did.drew {w w' : World} {G L M : Nat} {e : Ending} (h : Did w G L M e w') : Did w G L M e w'.drew := by
 obtain ⟨g', R', C', G', L', M', A', cap', he, h1, h2, h3, h4, h5⟩ := h
 exact ⟨g', R', C', G', L', M', A', cap', he, h1.later bd1, h2.drewN 1, h3, h4.thenB bd1, h5⟩
theorem retG3 {R : Ending → World → Prop} {a : Act} {w : World} {fn : Func} {s u t : Nat} {q : Nat} {x0 x1 x2 v v' : Value} (hr : fn.results = #[.tmp u, .cell s 26, .tmp t]) (h4 : a.tmps.getD s undef = .pointer (some ⟨q, 0, none⟩)) (h5 : a.tmps.getD u undef = v) (h6 : a.tmps.getD t undef = v') (hd : a.defers = [])
  (hw : Whole w q 26 [x0, x1, x2]) (hR : R (.returned (.tuple #[v, .agg #[x0, x1, x2], v'])) w) : bodyPost Tryz.prog fn R .ret a w := by
 have c0 : w.cell? ⟨q, 0, none⟩ = some x0 := hw.cell 0
 have c1 : w.cell? ⟨q, 1, none⟩ = some x1 := hw.cell 1
 have c2 : w.cell? ⟨q, 2, none⟩ = some x2 := hw.cell 2
 clear hw
 rw [Array.getD_eq_getD_getElem?] at h4 h5 h6
 exact bodyPost_ret (v := .tuple #[v, .agg #[x0, x1, x2], v']) (by simp [results, hr, h4, h5, h6, c0, c1, c2, go_sem]) hd hR
theorem cells16 {w : World} {q : Nat} {t : TypeId} {x0 x1 x2 x3 x4 x5 x6 x7 x8 x9 y0 y1 y2 y3 y4 y5 : Value} (h : Whole w q t [x0, x1, x2, x3, x4, x5, x6, x7, x8, x9, y0, y1, y2, y3, y4, y5]) :
  w.cell? ⟨q, 0, none⟩ = some x0 ∧ w.cell? ⟨q, 1, none⟩ = some x1 ∧ w.cell? ⟨q, 2, none⟩ = some x2 ∧ w.cell? ⟨q, 3, none⟩ = some x3 ∧ w.cell? ⟨q, 4, none⟩ = some x4 ∧ w.cell? ⟨q, 5, none⟩ = some x5 ∧ w.cell? ⟨q, 6, none⟩ = some x6 ∧ w.cell? ⟨q, 7, none⟩ = some x7 ∧ w.cell? ⟨q, 8, none⟩ = some x8 ∧ w.cell? ⟨q, 9, none⟩ = some x9 ∧ w.cell? ⟨q, 10, none⟩ = some y0 ∧ w.cell? ⟨q, 11, none⟩ = some y1 ∧ w.cell? ⟨q, 12, none⟩ = some y2 ∧ w.cell? ⟨q, 13, none⟩ = some y3 ∧ w.cell? ⟨q, 14, none⟩ = some y4 ∧ w.cell? ⟨q, 15, none⟩ = some y5 ∧ q < w.heap.size :=
 ⟨h.cell 0, h.cell 1, h.cell 2, h.cell 3, h.cell 4, h.cell 5, h.cell 6, h.cell 7, h.cell 8, h.cell 9, h.cell 10, h.cell 11, h.cell 12, h.cell 13, h.cell 14, h.cell 15, h.lt⟩
theorem whole_fth (w : World) (o o2 o3 : Obj) (t : TypeId) (l : List Value) : Whole ((((w.alloc o).alloc o2).alloc o3).alloc (.cells l.toArray t)) (w.heap.size + 3) t l := by
 have := Whole.new (((w.alloc o).alloc o2).alloc o3) t l
 have e : (((w.alloc o).alloc o2).alloc o3).heap.size = w.heap.size + 3 := by simp
 rw [e] at this
 exact this
theorem four_new (w : World) (o o2 o3 o4 : Obj) : Below w.heap.size w ((((w.alloc o).alloc o2).alloc o3).alloc o4) := (three_new w o o2 o3).alloc (by simp; omega) _
def smallI (n : Int) : Int := if 30 < n ∧ n ≤ 512 then 30 else n
theorem small_any (n : Int) (w : World) : Calls Tryz.prog 69 #[.int .i64 n] w fun e w' => e = .returned (.int .i64 (smallI n)) ∧ w = w' := by
 by_cases h1 : 30 < n
 ·by_cases h2 : n ≤ 512
  ·have HS : Hid (smallI n = 30) := by unfold Hid smallI; rw [if_pos ⟨h1, h2⟩]
   go_enter Tryz.func69, Tryz.ntmps69
   go_wp2; go_ret
   exact ⟨by rw [HS.out]; rfl, rfl⟩
  ·have HS : Hid (smallI n = n) := by unfold Hid smallI; rw [if_neg (fun q => h2 q.2)]
   go_enter Tryz.func69, Tryz.ntmps69
   go_wp2; go_ret
   exact ⟨by rw [HS.out]; rfl, rfl⟩
 ·have HS : Hid (smallI n = n) := by unfold Hid smallI; rw [if_neg (fun q => h1 q.1)]
  go_enter Tryz.func69, Tryz.ntmps69
  go_wp2; go_ret
  exact ⟨by rw [HS.out]; rfl, rfl⟩
end
end Go.Proofs.YtoddfaoifnkhlaaGreatDoor
