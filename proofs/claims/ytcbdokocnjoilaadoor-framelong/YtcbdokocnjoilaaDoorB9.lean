/-
  Contracts and plain mathematics of RnTake3, RnTake4, BRdr3, BRdr4.
-/
import Derived.Test.YtcbdokocnjoilaaDoorB8
import Derived.Test.YtcbdokocnjoilaaDoorB6
import Derived.Test.YtcbdokocnjoilaaDoorB4
namespace Go.Proofs.YtcbdokocnjoilaaDoor
set_option maxRecDepth 100000
set_option linter.unusedVariables false
set_option maxHeartbeats 8000000
section
open Go.ChangeShapes Go.WideShapes Go.ChangeAt Go.RowKit
theorem mem_take_succ (zs : List Int) (k : Nat) (x : Int) (hk : k < zs.length) (h : x ∉ zs.take k) (hx : zs.getD k 0 ≠ x) : x ∉ zs.take (k + 1) := by
  rw [take_snoc zs k _ hk rfl]
  intro hm
  rcases List.mem_append.1 hm with hm | hm
  · exact h hm
  · simp at hm; exact hx (by simpa using hm.symm)
theorem indexr_any (A : Option Addr) (n c : Nat) (zs : List Int) (x : Int) (w : World) (h : Ints .i32 w A zs) (hn : zs.length = n) (hl : n ≤ 1000000) :
    Calls Tryd.prog 111 #[.slice A n c, .int .i32 x] w fun e w' => ∃ r : Int, e = .returned (.int .i64 r) ∧ decide (0 ≤ r) = decide (x ∈ zs) ∧ w = w' := by
  have HC := hide h
  have HN := hide hn
  clear h hn
  go_enter Tryd.func111, Tryd.ntmps111
  go_wp2
  go_loopw [5, 8] (fun _ i wr => ∃ k : Nat, k ≤ n ∧ i = .int .i64 k ∧ Hid (x ∉ zs.take k) ∧ wr = w) (fun _ i _ => n - (intOf i).toNat)
  case atStart => exact ⟨0, Nat.zero_le _, rfl, (by unfold Hid; simp), rfl⟩
  case round =>
    obtain ⟨k, hk, rfl, HA, hw⟩ := hrel
    subst hw
    by_cases hlt : k < n
    · obtain ⟨b1, o1, rfl, hc, l1⟩ := HC.out.at (i := k) (by rw [HN.out]; exact hlt)
      obtain ⟨y, hy⟩ : ∃ y, zs.getD k 0 = y := ⟨_, rfl⟩
      rw [hy] at hc
      by_cases he : x = y
      · have HF : Hid (decide (x ∈ zs) = true) := by
          unfold Hid
          rw [decide_eq_true_eq, he, ← hy]
          exact getD_mem zs k (by rw [HN.out]; exact hlt)
        have hq : (x == y) = true := by simpa using he
        clear he hy
        go_wp2
        go_ret
        exact ⟨_, rfl, by rw [HF.out]; simp, rfl⟩
      · have HF : Hid (x ∉ zs.take (k + 1)) := mem_take_succ zs k x (by rw [HN.out]; exact hlt) HA.out (by rw [hy]; exact fun z => he z.symm)
        have hq : (x == y) = false := by simpa using he
        clear he hy
        go_wp2
        go_roundw
        case rel => exact ⟨k + 1, by omega, by go_num, HF, by first | rfl | trivial⟩
        case measure => simp [intOf]; omega
    · have HF : Hid (decide (x ∈ zs) = false) := by
        have := HA.out
        rw [List.take_of_length_le (by rw [HN.out]; omega)] at this
        unfold Hid
        exact decide_eq_false this
      go_wp2
      go_ret
      exact ⟨_, rfl, by rw [HF.out]; rfl, rfl⟩
theorem containsr_any (A : Option Addr) (n c : Nat) (zs : List Int) (x : Int) (w : World) (h : Ints .i32 w A zs) (hn : zs.length = n) (hl : n ≤ 1000000) :
    Calls Tryd.prog 108 #[.slice A n c, .int .i32 x] w fun e w' => e = .returned (.bool (decide (x ∈ zs))) ∧ w = w' := by
  have KEY := hide (indexr_any A n c zs x w h hn hl)
  clear h hn
  go_enter Tryd.func108, Tryd.ntmps108
  go_wp2_with fail
  refine KEY.out.mono ?_
  rintro e w1 ⟨r, rfl, hx, rfl⟩
  go_wp2
  go_ret
  exact ⟨rfl, rfl⟩

theorem marks_0 (xs : List Int) (s : Nat × Int) : marksD xs s ((0 : Nat) : Int) = (s, 0, 0, true) := rfl
theorem marks_1 (xs : List Int) (s : Nat × Int) : marksD xs s ((1 : Nat) : Int) = ((upD xs s 1114111 5).1, (upD xs s 1114111 5).2, 0, decide ((upD xs s 1114111 5).2 ≠ 0)) := rfl
theorem marks_2 (xs : List Int) (s : Nat × Int) : marksD xs s ((2 : Nat) : Int) = ((upD xs (upD xs s 1114111 5).1 1114111 5).1, (upD xs s 1114111 5).2, (upD xs (upD xs s 1114111 5).1 1114111 5).2, decide ((upD xs s 1114111 5).2 ≠ 0) && decide ((upD xs (upD xs s 1114111 5).1 1114111 5).2 ≠ 0)) := rfl
theorem marks_ok (xs : List Int) (s : Nat × Int) (K : Nat) (hK : K ≤ 2) : (!(decide ((0 : Int) ∈ [(marksD xs s (K : Int)).2.1, (marksD xs s (K : Int)).2.2.1].take K))) = (marksD xs s (K : Int)).2.2.2 := by
  rcases (by omega : K = 0 ∨ K = 1 ∨ K = 2) with rfl | rfl | rfl
  · rw [marks_0]; rfl
  · rw [marks_1, Bool.eq_iff_iff]; simp; omega
  · rw [marks_2, Bool.eq_iff_iff]; simp; omega
theorem arr_len : Tryd.prog.arrayLen 124 = 2 := by kernel_rfl
theorem arr_elem : Tryd.prog.elem 124 = 21 := by kernel_rfl
theorem slice_h (q K : Nat) (hK : K ≤ 2) (w : World) : (Instr.sliceAt 124 (.pointer (some ⟨q, 0, none⟩)) none (some (.int .i64 (K : Int))) none).run Tryd.prog w = .ok (.slice (some ⟨q, 0, none⟩) K 2) w := by
  have ht : Tryd.prog.underlying 124 = some (.array (Tryd.prog.arrayLen 124) (Tryd.prog.elem 124)) := by rw [arr_len, arr_elem]; exact Tryd.underlying124
  have hi : Tryd.prog.info? 21 = some (Tryd.prog.info? 21).get! := by kernel_rfl
  have hc : Tryd.prog.cellsOf 21 = 1 := by kernel_rfl
  rw [run_sliceAt_array_h w 124 _ ht .i64 (K : Int) (by omega) (by rw [arr_len]; omega), arr_elem, run_sizeOf w hi, hc, arr_len]
  show Result.ok (slicedAt ⟨q, 0, none⟩ 0 (K : Int).toNat 2 1) w = _
  rw [Int.toNat_natCast]
  rfl
/-- What is left of a reader, and marks. -/
def GivesM (g : Nat) (w : World) (m n : Int) (ok : Bool) (xs : List Int) (s : Nat × Int) (e : Ending) (w' : World) : Prop := e = .returned (.tuple #[.agg #[.int .i32 m, .int .i32 n], .bool ok]) ∧ Only g w w' ∧ RdS w' g xs s
theorem ret22 {R : Ending → World → Prop} {a : Act} {w : World} {fn : Func} {s u : Nat} {q : Nat} {x y v : Value} (hr : fn.results = #[.cell s 124, .tmp u]) (h4 : a.tmps.getD s undef = .pointer (some ⟨q, 0, none⟩)) (h5 : a.tmps.getD u undef = v) (hd : a.defers = [])
    (hw : Whole w q 124 [x, y]) (hR : R (.returned (.tuple #[.agg #[x, y], v])) w) : bodyPost Tryd.prog fn R .ret a w := by
  have c0 : w.cell? ⟨q, 0, none⟩ = some x := hw.cell 0
  have c1 : w.cell? ⟨q, 1, none⟩ = some y := hw.cell 1
  clear hw
  rw [Array.getD_eq_getD_getElem?] at h4 h5
  exact bodyPost_ret (v := .tuple #[.agg #[x, y], v]) (by simp [results, hr, h4, h5, c0, c1, go_sem]) hd hR
theorem ints_two {w : World} {q : Nat} {m n : Int} (h : Whole w q 124 [.int .i32 m, .int .i32 n]) (K : Nat) : Ints .i32 w (some ⟨q, 0, none⟩) ([m, n].take K) := by
  have : Ints .i32 w (some ⟨q, 0, none⟩) [m, n] := .inr ⟨q, 0, rfl, fun i hi => by
    rw [Nat.zero_add, h.cell i]
    rcases i with _ | _ | i
    · rfl
    · rfl
    · simp at hi; omega⟩
  exact this.take K
theorem takemarks_s (g : Nat) (xs : List Int) (s : Nat × Int) (w : World) (h : RdS w g xs s) (hb : Byte xs) (hl : xs.length ≤ 1000000) :
    Calls Tryd.prog 104 #[.pointer (some ⟨g, 0, none⟩)] w (GivesM g w (marksD xs (upD xs s 2 6).1 (upD xs s 2 6).2).2.1 (marksD xs (upD xs s 2 6).1 (upD xs s 2 6).2).2.2.1 (marksD xs (upD xs s 2 6).1 (upD xs s 2 6).2).2.2.2 xs (marksD xs (upD xs s 2 6).1 (upD xs s 2 6).2).1) := by
  obtain ⟨W0, hW0⟩ : ∃ W0, (w.alloc (.cells #[.int .i32 0, .int .i32 0] 124)).alloc (.cells #[.int .i32 0, .int .i32 0] 124) = W0 := ⟨_, rfl⟩
  have hB0 : Below w.heap.size w W0 := by rw [← hW0]; exact two_new w _ _ [.int .i32 0, .int .i32 0] [.int .i32 0, .int .i32 0]
  have hc0 : Whole W0 w.heap.size 124 [.int .i32 0, .int .i32 0] := by rw [← hW0]; exact (Whole.new w 124 [.int .i32 0, .int .i32 0]).alloc _
  obtain ⟨q, hq⟩ : ∃ q, w.heap.size + 1 = q := ⟨_, rfl⟩
  have hd0 : Whole W0 q 124 [.int .i32 0, .int .i32 0] := by rw [← hW0, ← hq]; exact whole_snd w _ 124 [.int .i32 0, .int .i32 0]
  have HQ : Hid (w.heap.size + 1 = q) := hq
  have HG := hide h.lt
  have KEY := hide (some_s g xs s 2 W0 (h.later hB0) hb hl (by omega))
  obtain ⟨v0, v1⟩ := upD_bd (xs := xs) (s := s) (most := 2) (er := 6) hb (by omega)
  obtain ⟨⟨s1, V⟩, hU⟩ : ∃ U, upD xs s 2 6 = U := ⟨_, rfl⟩
  rw [hU] at KEY v0 v1 ⊢
  simp only at v0 v1 KEY ⊢
  obtain ⟨K, rfl⟩ : ∃ K : Nat, V = (K : Int) := ⟨V.toNat, by omega⟩
  have hK : K ≤ 2 := by omega
  have HB0 := hide hB0
  have HC0 := hide hc0
  have HD0 := hide hd0
  have HW0 := hide hW0
  have hq1 : g ≠ q := by have := HG.out; omega
  have hq2 : g ≠ w.heap.size := by have := HG.out; omega
  have hq3 : w.heap.size ≠ q := by omega
  have hq4 : w.heap.size ≤ q := by omega
  clear hW0 hB0 h hU hc0 hd0 v0 v1
  go_enter Tryd.func104, Tryd.ntmps104
  go_wp2_with fail
  rw [HW0.out]
  refine KEY.out.mono ?_
  rintro e w1 ⟨rfl, ho1, hr1⟩
  have HO1 := hide (only_from HB0.out ho1)
  have HR1 := hide hr1
  have HC1 := hide (HC0.out.far ho1 (Ne.symm hq2))
  have HD1 := hide (HD0.out.far ho1 (Ne.symm hq1))
  have hsl := slice_h q K hK
  clear ho1 hr1 hq
  go_wp2
  go_loopw [6, 12] (fun _ i wr => ∃ k : Nat, k ≤ K ∧ i = .int .i64 k ∧ Hid (RdS wr g xs (marksD xs s1 (k : Int)).1) ∧ Hid (Whole wr q 124 [.int .i32 (marksD xs s1 (k : Int)).2.1, .int .i32 (marksD xs s1 (k : Int)).2.2.1]) ∧ Hid (Whole wr w.heap.size 124 [.int .i32 0, .int .i32 0]) ∧ Hid (Only g w wr)) (fun _ i _ => K - (intOf i).toNat)
  case atStart => exact ⟨0, Nat.zero_le _, rfl, HR1, HD1, HC1, HO1⟩
  case round =>
    obtain ⟨k, hk, rfl, HR, HD, HC, HO⟩ := hrel
    by_cases hlt : k < K
    · have z0 := HD.out.frozen 0
      have z1 := HD.out.frozen 1
      have m0 := HD.out.cell 0
      have m1 := HD.out.cell 1
      simp only [List.getElem?_cons_zero, List.getElem?_cons_succ] at m0 m1
      rcases (by omega : k = 0 ∨ k = 1) with rfl | rfl
      · have HM := hide (marks_1 xs s1)
        have HN := hide (marks_0 xs s1)
        rw [HN.out] at HR HD m0 m1
        simp only at HD m0 m1
        go_wp2_with fail
        refine (takerune_s g xs _ wr HR.out hb hl).mono ?_
        rintro e w2 ⟨rfl, ho2, hr2⟩
        have HD2 := hide (HD.out.far ho2 (Ne.symm hq1))
        have HC2 := hide (HC.out.far ho2 (Ne.symm hq2))
        have HO2 := hide (HO.out.trans ho2)
        have HR2 := hide hr2
        have y0 := HD2.out.frozen 0
        have x0 := HD2.out.cell 0
        simp only [List.getElem?_cons_zero] at x0
        have l2 := HD2.out.lt
        clear ho2 hr2 m0 m1
        go_wp2
        go_roundw
        case rel => exact ⟨1, by omega, rfl, by rw [HM.out]; exact HR2.out.putq HD2.out (by decide) hq1, by rw [HM.out]; exact HD2.out.put 0 _, whole_put HC2.out hq3 _, only_putq HO2.out hq4 _⟩
        case measure => simp [intOf]; omega
      · have HM := hide (marks_2 xs s1)
        have HN := hide (marks_1 xs s1)
        rw [HN.out] at HR HD m0 m1
        simp only at HD m0 m1
        go_wp2_with fail
        refine (takerune_s g xs _ wr HR.out hb hl).mono ?_
        rintro e w2 ⟨rfl, ho2, hr2⟩
        have HD2 := hide (HD.out.far ho2 (Ne.symm hq1))
        have HC2 := hide (HC.out.far ho2 (Ne.symm hq2))
        have HO2 := hide (HO.out.trans ho2)
        have HR2 := hide hr2
        have y0 := HD2.out.frozen 1
        have x0 := HD2.out.cell 1
        simp only [List.getElem?_cons_zero, List.getElem?_cons_succ] at x0
        have l2 := HD2.out.lt
        clear ho2 hr2 m0 m1
        go_wp2
        go_roundw
        case rel => exact ⟨2, by omega, rfl, by rw [HM.out]; exact HR2.out.putq HD2.out (by decide) hq1, by rw [HM.out]; exact HD2.out.put 1 _, whole_put HC2.out hq3 _, only_putq HO2.out hq4 _⟩
        case measure => simp [intOf]; omega
    · obtain rfl : k = K := by omega
      have HB := hide (marks_ok xs s1 k hK)
      obtain ⟨⟨t1, m, n, ok⟩, hM⟩ : ∃ M, marksD xs s1 (k : Int) = M := ⟨_, rfl⟩
      rw [hM] at HB HR HD ⊢
      simp only at HB
      have HM := hide hM
      obtain ⟨bq, hbq⟩ : ∃ bq, decide ((0 : Int) ∈ [m, n].take k) = bq := ⟨_, rfl⟩
      rw [hbq] at HB
      have HBQ := hide hbq
      clear hbq
      have HKL : Hid (([m, n].take k).length = k) := by unfold Hid; rw [List.length_take]; simp; omega
      have HI : Hid (Ints .i32 wr.drew (some ⟨q, 0, none⟩) ([m, n].take k)) := ints_two HD.out.drew k
      have m0 : wr.cell? ⟨q, 0, none⟩ = some (.int .i32 m) := HD.out.cell 0
      have m1 : wr.cell? ⟨q, 1, none⟩ = some (.int .i32 n) := HD.out.cell 1
      have z0 : wr.frozen? ⟨w.heap.size, 0, none⟩ = false := HC.out.frozen 0
      have z1 : wr.frozen? ⟨w.heap.size, 1, none⟩ = false := HC.out.frozen 1
      have d0 : wr.cell? ⟨w.heap.size, 0, none⟩ = some (.int .i32 0) := HC.out.cell 0
      have d1 : wr.cell? ⟨w.heap.size, 1, none⟩ = some (.int .i32 0) := HC.out.cell 1
      clear hM hlt
      go_wp2
      refine wp_region_chainL (fun w' => w'.cell? ⟨q, 0, none⟩ = some (.int .i32 m) ∧ w'.cell? ⟨q, 1, none⟩ = some (.int .i32 n)) 4 [(0, 1), (0, 0), (1, 2), (2, 3), (3, 4), (3, 5)] (by kernel_rfl) (by kernel_rfl) (by kernel_rfl) (fun _ _ _ _ _ h => h) ?_ ?_
      · exact ⟨m0, m1⟩
      refine chainL_take (v := ?_) (by simp only [List.getElem?_toArray, List.getElem?_cons_zero, List.getElem?_cons_succ]; rfl) (by rfl) (fun w hS => ?_) ?_
      rotate_left
      · go_simp <;> with_reducible rfl
      simp only [Act.put, List.setIfInBounds_toArray, List.set_cons_zero, List.set_cons_succ]
      refine chainL_take (v := ?_) (by simp only [List.getElem?_toArray, List.getElem?_cons_zero]; rfl) (by rfl) (fun w hS => ?_) ?_
      rotate_left
      · obtain ⟨s0, s1⟩ := hS; go_simp <;> with_reducible rfl
      simp only [Act.put, List.setIfInBounds_toArray, List.set_cons_zero, List.set_cons_succ]
      refine chainL_alone (by simp only [List.getElem?_toArray, List.getElem?_cons_zero, List.getElem?_cons_succ]; rfl) ?_
      intro K hK
      go_wp2_with fail
      refine (containsr_any _ k 2 ([m, n].take k) 0 _ HI.out HKL.out (by omega)).mono ?_
      rintro e w7 ⟨rfl, rfl⟩
      rw [HBQ.out]
      go_wp2
      refine hK.out _ _ (⟨m0, m1⟩) ?_
      clear hK K
      refine chainL_pure (v := ?_) (by simp only [List.getElem?_toArray, List.getElem?_cons_zero, List.getElem?_cons_succ]; rfl) (by rfl) (fun w => ?_) ?_
      rotate_left
      · go_simp <;> with_reducible rfl
      simp only [Act.put, List.setIfInBounds_toArray, List.set_cons_zero, List.set_cons_succ]
      refine chainL_late (by simp only [List.getElem?_toArray, List.getElem?_cons_zero, List.getElem?_cons_succ]; rfl) ?_
      intro K hK
      go_wp2
      refine hK.out _ _ ?_
      clear hK K
      refine chainL_late (by simp only [List.getElem?_toArray, List.getElem?_cons_zero, List.getElem?_cons_succ]; rfl) ?_
      intro K hK
      go_wp2
      refine hK.out _ _ ?_
      clear hK K
      refine chainL_nil ?_
      go_wp2
      refine ret22 (v := .bool ok) Tryd.results104 rfl (congrArg Value.bool HB.out) rfl (((HC.out.put 0 _).put 1 _).drew) ?_
      rw [HM.out]
      exact ⟨rfl, only_drewN (only_putq (only_putq HO.out (Nat.le_refl _) _) (Nat.le_refl _) _) 1, ((HR.out.putq HC.out (by decide) hq2).putq (HC.out.put 0 _) (by decide) hq2).later ((Below.refl _ _).drewN 1)⟩
theorem spans_rd {w : World} {g : Nat} {xs : List Int} {s : Nat × Int} (hS : Spans w) (h : RdS w g xs s) : 0 ≠ g := by
  obtain ⟨t, -, hr, -⟩ := h
  obtain ⟨A, c, hw, -⟩ := hr.ex
  rintro rfl
  have h1 := hS 1 (.int .i32 31) rfl
  rw [Nat.zero_add, hw.cell 1] at h1
  cases h1
theorem Only.spans {g : Nat} {w w' : World} (h : Only g w w') (hS : Spans w) (hg : 0 ≠ g) : Spans w' := fun j v hv => by
  have := hS j v hv
  rw [← this]
  exact World.cell?_of_block (w := w) (World.grownBy.block h 0 hS.size (fun e => hg (by cases e; rfl)))
theorem Spans.putq {w : World} {q i : Nat} (hS : Spans w) (hq : 0 ≠ q) (x : Value) : Spans (w.setCell ⟨q, i, none⟩ x) := (Only.put (g := q) (w := w) i x).spans hS hq
/-- What is left of a reader, and a cell. -/
def GivesC (g : Nat) (w : World) (c : Cel) (xs : List Int) (s : Nat × Int) (e : Ending) (w' : World) : Prop := e = .returned (.agg #[.int .i32 c.r, .int .i32 c.m, .int .i32 c.n, .int .u8 (c.w : Int), .int .u8 (c.p.f : Int), .int .u8 (c.p.g : Int), .int .u8 (c.p.b : Int)]) ∧ Only g w w' ∧ RdS w' g xs s
/-- The state behind a cell: what is wrong with it is told behind all of its numbers. -/
def oneS (x : (Nat × Int) × Cel × Bool) : Nat × Int := (x.1.1, if x.1.2 = 0 ∧ (x.2.2 = false ∨ rightC x.2.1 = false) then 3 else x.1.2)
theorem oneS_good {t : Nat} {E : Int} {c : Cel} (h : rightC c = true) : oneS ((t, E), c, true) = (t, E) := by unfold oneS; simp [h]
theorem oneS_bad {t : Nat} {E : Int} {c : Cel} {ok : Bool} (h : ok = false ∨ rightC c = false) : oneS ((t, E), c, ok) = (t, fEr E 3) := by unfold oneS fEr; simp [h]
theorem only_put7 {g q : Nat} {w w1 : World} (h : Only g w w1) (hq : w.heap.size ≤ q) (x0 x1 x2 x3 x4 x5 x6 : Value) : Only g w (((((((w1.setCell ⟨q, 0, none⟩ x0).setCell ⟨q, 1, none⟩ x1).setCell ⟨q, 2, none⟩ x2).setCell ⟨q, 3, none⟩ x3).setCell ⟨q, 4, none⟩ x4).setCell ⟨q, 5, none⟩ x5).setCell ⟨q, 6, none⟩ x6) :=
  only_putq (only_putq (only_putq (only_putq (only_putq (only_putq (only_putq h hq _) hq _) hq _) hq _) hq _) hq _) hq _
theorem rds_put7 {w : World} {g q : Nat} {xs : List Int} {s : Nat × Int} {y0 y1 y2 y3 y4 y5 y6 : Value} (h : RdS w g xs s) (hw : Whole w q 127 [y0, y1, y2, y3, y4, y5, y6]) (hq : g ≠ q) (x0 x1 x2 x3 x4 x5 x6 : Value) : RdS (((((((w.setCell ⟨q, 0, none⟩ x0).setCell ⟨q, 1, none⟩ x1).setCell ⟨q, 2, none⟩ x2).setCell ⟨q, 3, none⟩ x3).setCell ⟨q, 4, none⟩ x4).setCell ⟨q, 5, none⟩ x5).setCell ⟨q, 6, none⟩ x6) g xs s :=
  ((((((h.putq hw (by decide) hq).putq (hw.put 0 _) (by decide) hq).putq ((hw.put 0 _).put 1 _) (by decide) hq).putq (((hw.put 0 _).put 1 _).put 2 _) (by decide) hq).putq ((((hw.put 0 _).put 1 _).put 2 _).put 3 _) (by decide) hq).putq (((((hw.put 0 _).put 1 _).put 2 _).put 3 _).put 4 _) (by decide) hq).putq ((((((hw.put 0 _).put 1 _).put 2 _).put 3 _).put 4 _).put 5 _) (by decide) hq
theorem one_0 {xs : List Int} {s : Nat × Int} {s1 s2 : Nat × Int} {p : Pn} (h1 : upD xs s 2 5 = (s1, 0)) (h2 : penD xs s1 = (s2, p)) : oneD xs s = (s2, ⟨0, 0, 0, 0, p⟩, true) := by
  unfold oneD
  simp only [h1, h2, if_true]
theorem one_n {xs : List Int} {s : Nat × Int} {s1 s2 s3 s4 s5 : Nat × Int} {p : Pn} {d : Nat} {r k m n : Int} {ok : Bool} (hd : ¬ d = 0) (h1 : upD xs s 2 5 = (s1, (d : Int))) (h2 : penD xs s1 = (s2, p)) (h3 : upD xs s2 1114111 5 = (s3, r)) (h4 : upD xs s3 2 6 = (s4, k)) (h5 : marksD xs s4 k = (s5, m, n, ok)) :
    oneD xs s = (s5, ⟨r, m, n, d, p⟩, ok) := by
  unfold oneD
  simp only [h1, h2, h3, h4, h5]
  rw [if_neg (by omega), Int.toNat_natCast]
/-- A store of a pen into a cell. -/
theorem cell_pen {w : World} {q : Nat} {t : TypeId} {a b c d x y z : Value} (h : Whole w q t [a, b, c, d, x, y, z]) (F G B : Value) : Whole (((w.setCell ⟨q, 4, none⟩ F).setCell ⟨q, 5, none⟩ G).setCell ⟨q, 6, none⟩ B) q t [a, b, c, d, F, G, B] := ((h.put 4 F).put 5 G).put 6 B
theorem penD_lt (xs : List Int) (s : Nat × Int) : (penD xs s).2.f < 256 ∧ (penD xs s).2.g < 256 ∧ (penD xs s).2.b < 256 := by
  unfold penD
  split
  · exact ofN_bd 0
  · exact ofN_bd _

theorem takecell_s (g : Nat) (xs : List Int) (s : Nat × Int) (w : World) (h : RdS w g xs s) (hb : Byte xs) (hl : xs.length ≤ 1000000) (hS : Spans w) :
    Calls Tryd.prog 93 #[.pointer (some ⟨g, 0, none⟩)] w (GivesC g w (oneD xs s).2.1 xs (oneS (oneD xs s))) := by
  obtain ⟨W0, hW0⟩ : ∃ W0, (w.alloc (.cells #[.int .i32 0, .int .i32 0, .int .i32 0, .int .u8 0, .int .u8 0, .int .u8 0, .int .u8 0] 127)).alloc (.cells #[.int .i32 0, .int .i32 0, .int .i32 0, .int .u8 0, .int .u8 0, .int .u8 0, .int .u8 0] 127) = W0 := ⟨_, rfl⟩
  have hB0 : Below w.heap.size w W0 := by rw [← hW0]; exact two_new w _ _ [.int .i32 0, .int .i32 0, .int .i32 0, .int .u8 0, .int .u8 0, .int .u8 0, .int .u8 0] [.int .i32 0, .int .i32 0, .int .i32 0, .int .u8 0, .int .u8 0, .int .u8 0, .int .u8 0]
  have hc0 : Whole W0 w.heap.size 127 [.int .i32 0, .int .i32 0, .int .i32 0, .int .u8 0, .int .u8 0, .int .u8 0, .int .u8 0] := by rw [← hW0]; exact (Whole.new w 127 [.int .i32 0, .int .i32 0, .int .i32 0, .int .u8 0, .int .u8 0, .int .u8 0, .int .u8 0]).alloc _
  obtain ⟨q, hq⟩ : ∃ q, w.heap.size + 1 = q := ⟨_, rfl⟩
  have hd0 : Whole W0 q 127 [.int .i32 0, .int .i32 0, .int .i32 0, .int .u8 0, .int .u8 0, .int .u8 0, .int .u8 0] := by rw [← hW0, ← hq]; exact whole_snd w _ 127 [.int .i32 0, .int .i32 0, .int .i32 0, .int .u8 0, .int .u8 0, .int .u8 0, .int .u8 0]
  have hg := h.lt
  have h0s := hS.size
  have KEY := hide (upto_s g xs s 2 W0 (h.later hB0) hb hl (by omega))
  obtain ⟨v0, v1⟩ := upD_bd (xs := xs) (s := s) (most := 2) (er := 5) hb (by omega)
  obtain ⟨⟨s1, V⟩, hU⟩ : ∃ U, upD xs s 2 5 = U := ⟨_, rfl⟩
  rw [hU] at KEY v0 v1
  simp only at v0 v1 KEY
  obtain ⟨d, rfl⟩ : ∃ d : Nat, V = (d : Int) := ⟨V.toNat, by omega⟩
  have hd : d ≤ 2 := by omega
  obtain ⟨p1, p2, p3⟩ := penD_lt xs s1
  obtain ⟨⟨s2, ⟨F, G, B⟩⟩, hP⟩ : ∃ P, penD xs s1 = P := ⟨_, rfl⟩
  rw [hP] at p1 p2 p3
  simp only at p1 p2 p3
  have HU := hide hU
  have HP := hide hP
  have HB0 := hide hB0
  have HC0 := hide hc0
  have HD0 := hide hd0
  have HW0 := hide hW0
  have hq1 : g ≠ q := by omega
  have hq2 : g ≠ w.heap.size := by omega
  have hq3 : w.heap.size ≠ q := by omega
  have hq4 : w.heap.size ≤ q := by omega
  have HGZ := hide (spans_rd hS h)
  have HQZ : Hid (0 ≠ q) := by unfold Hid; omega
  have HS0 := hide (hS.below hB0)
  clear hW0 hB0 h hU hP hc0 hd0 v0 v1 hS hg h0s
  go_enter Tryd.func93, Tryd.ntmps93
  go_wp2_with fail
  rw [HW0.out]
  refine KEY.out.mono ?_
  rintro e w1 ⟨rfl, ho1, hr1⟩
  have HO1 := hide (only_putq (only_from HB0.out ho1) hq4 (i := 3) (.int .u8 (d : Int)))
  have hc1 := HC0.out.far ho1 (Ne.symm hq2)
  have hd1 := HD0.out.far ho1 (Ne.symm hq1)
  have HR1 : Hid (RdS (w1.setCell ⟨q, 3, none⟩ (.int .u8 (d : Int))) g xs s1) := hr1.putq hd1 (by decide) hq1
  have HC1 := hide (whole_put (o := 3) hc1 hq3 (.int .u8 (d : Int)))
  have HD1 : Hid (Whole (w1.setCell ⟨q, 3, none⟩ (.int .u8 (d : Int))) q 127 [.int .i32 0, .int .i32 0, .int .i32 0, .int .u8 (d : Int), .int .u8 0, .int .u8 0, .int .u8 0]) := hd1.put 3 _
  have HS1 := hide ((ho1.spans HS0.out HGZ.out).putq (i := 3) HQZ.out (.int .u8 (d : Int)))
  have z3 := hd1.frozen 3
  have k3 := hd1.cell 3
  have l1 := hd1.lt
  simp only [List.getElem?_cons_zero, List.getElem?_cons_succ] at k3
  obtain ⟨w2, hw2⟩ : ∃ w2, w1.setCell ⟨q, 3, none⟩ (.int .u8 (d : Int)) = w2 := ⟨_, rfl⟩
  rw [hw2] at HO1 HR1 HC1 HD1 HS1
  have HW2 := hide hw2
  clear ho1 hr1 hc1 hd1 hw2
  go_wp2_with fail
  rw [HW2.out]
  refine (takepen_s g xs s1 w2 HR1.out hb hl).mono ?_
  rw [HP.out]
  rintro e w3 ⟨rfl, ho3, hr3⟩
  have hc3 := HC1.out.far ho3 (Ne.symm hq2)
  have hd3 := HD1.out.far ho3 (Ne.symm hq1)
  have HO3 := hide (only_putq (only_putq (only_putq (HO1.out.trans ho3) hq4 (i := 4) (.int .u8 (F : Int))) hq4 (i := 5) (.int .u8 (G : Int))) hq4 (i := 6) (.int .u8 (B : Int)))
  have HR3 := hide (((hr3.putq (i := 4) (x := .int .u8 (F : Int)) hd3 (by decide) hq1).putq (i := 5) (x := .int .u8 (G : Int)) (hd3.put 4 _) (by decide) hq1).putq (i := 6) (x := .int .u8 (B : Int)) ((hd3.put 4 _).put 5 _) (by decide) hq1)
  have HC3 := hide (whole_put (o := 6) (whole_put (o := 5) (whole_put (o := 4) hc3 hq3 (.int .u8 (F : Int))) hq3 (.int .u8 (G : Int))) hq3 (.int .u8 (B : Int)))
  have HD3 := hide (cell_pen hd3 (.int .u8 (F : Int)) (.int .u8 (G : Int)) (.int .u8 (B : Int)))
  have HS3 := hide ((((ho3.spans HS1.out HGZ.out).putq (i := 4) HQZ.out (.int .u8 (F : Int))).putq (i := 5) HQZ.out (.int .u8 (G : Int))).putq (i := 6) HQZ.out (.int .u8 (B : Int)))
  have z4 := hd3.frozen 4
  have z5 := hd3.frozen 5
  have z6 := hd3.frozen 6
  have k0' := hd3.cell 0
  have k1' := hd3.cell 1
  have k2' := hd3.cell 2
  have k3' := hd3.cell 3
  have k4 := hd3.cell 4
  have k5 := hd3.cell 5
  have k6 := hd3.cell 6
  have l3 := hd3.lt
  simp only [List.getElem?_cons_zero, List.getElem?_cons_succ] at k0' k1' k2' k3' k4 k5 k6
  obtain ⟨w4, hw4⟩ : ∃ w4, ((w3.setCell ⟨q, 4, none⟩ (.int .u8 (F : Int))).setCell ⟨q, 5, none⟩ (.int .u8 (G : Int))).setCell ⟨q, 6, none⟩ (.int .u8 (B : Int)) = w4 := ⟨_, rfl⟩
  rw [hw4] at HO3 HR3 HC3 HD3 HS3
  have HW4 := hide hw4
  clear ho3 hr3 hc3 hd3 hw4 k3 z3 l1
  by_cases hd0 : d = 0
  · subst hd0
    have HONE := hide (one_0 HU.out HP.out)
    cases hr : rightC ⟨0, 0, 0, 0, ⟨F, G, B⟩⟩
    · have HQ := hide (oneS_bad (t := s2.1) (E := s2.2) (ok := true) (.inr hr))
      have HRT := hide hr
      clear hr
      obtain ⟨c0, c1, c2, c3, c4, c5, c6, -⟩ := cells7 HD3.out
      have lq := HD3.out.lt
      go_wp2_with fail
      rw [HW4.out]
      refine (cright_any 0 0 0 0 F G B (by omega) w4 HS3.out).mono ?_
      rintro e w9 ⟨rfl, hb9⟩
      rw [HRT.out]
      have HO9 := hide (only_below HO3.out hb9)
      have HR9 := hide (HR3.out.later hb9)
      have HC9 := hide (HC3.out.later hb9)
      have HD9 := hide (HD3.out.later hb9)
      clear hb9 c0 c1 c2 c3 c4 c5 c6 lq
      go_wp2_with fail
      refine (fail_s g xs s2 3 (by decide) w9 HR9.out).mono ?_
      rintro e w10 ⟨rfl, ho10, hr10⟩
      have HO10 := hide (HO9.out.trans ho10)
      have HR10 := hide hr10
      have HC10 := hide (HC9.out.far ho10 (Ne.symm hq2))
      have HD10 := hide (HD9.out.far ho10 (Ne.symm hq1))
      clear ho10 hr10
      obtain ⟨c0, c1, c2, c3, c4, c5, c6, -⟩ := cells7 HD10.out
      obtain ⟨e0, e1, e2, e3, e4, e5, e6, ez⟩ := cells7 HC10.out
      have y0 := ez 0
      have y1 := ez 1
      have y2 := ez 2
      have y3 := ez 3
      have y4 := ez 4
      have y5 := ez 5
      have y6 := ez 6
      have lq := HC10.out.lt
      clear ez
      go_wp2
      refine ret7 Tryd.results93 (.inl rfl) rfl rfl (put7 HC10.out _ _ _ _ _ _ _) ?_
      rw [HONE.out, HQ.out]
      exact ⟨rfl, only_put7 HO10.out (Nat.le_refl _) _ _ _ _ _ _ _, rds_put7 HR10.out HC10.out hq2 _ _ _ _ _ _ _⟩
    · have HQ := hide (oneS_good (t := s2.1) (E := s2.2) hr)
      have HRT := hide hr
      clear hr
      obtain ⟨c0, c1, c2, c3, c4, c5, c6, -⟩ := cells7 HD3.out
      have lq := HD3.out.lt
      go_wp2_with fail
      rw [HW4.out]
      refine (cright_any 0 0 0 0 F G B (by omega) w4 HS3.out).mono ?_
      rintro e w9 ⟨rfl, hb9⟩
      rw [HRT.out]
      have HO9 := hide (only_below HO3.out hb9)
      have HR9 := hide (HR3.out.later hb9)
      have HC9 := hide (HC3.out.later hb9)
      have HD9 := hide (HD3.out.later hb9)
      clear hb9 c0 c1 c2 c3 c4 c5 c6 lq
      obtain ⟨c0, c1, c2, c3, c4, c5, c6, -⟩ := cells7 HD9.out
      obtain ⟨e0, e1, e2, e3, e4, e5, e6, ez⟩ := cells7 HC9.out
      have y0 := ez 0
      have y1 := ez 1
      have y2 := ez 2
      have y3 := ez 3
      have y4 := ez 4
      have y5 := ez 5
      have y6 := ez 6
      have lq := HC9.out.lt
      clear ez
      go_wp2
      refine ret7 Tryd.results93 (.inl rfl) rfl rfl (put7 HC9.out _ _ _ _ _ _ _) ?_
      rw [HONE.out, HQ.out]
      exact ⟨rfl, only_put7 HO9.out (Nat.le_refl _) _ _ _ _ _ _ _, rds_put7 HR9.out HC9.out hq2 _ _ _ _ _ _ _⟩
  · have hdz : ((d : Int) != 0) = true := by simp; omega
    have HD := hide hd0
    obtain ⟨r0, r1⟩ := upD_bd (xs := xs) (s := s2) (most := 1114111) (er := 5) hb (by omega)
    obtain ⟨⟨s3, r⟩, hR⟩ : ∃ U, upD xs s2 1114111 5 = U := ⟨_, rfl⟩
    obtain ⟨⟨s4, kk⟩, hK⟩ : ∃ U, upD xs s3 2 6 = U := ⟨_, rfl⟩
    obtain ⟨⟨s5, m, n, ok⟩, hM⟩ : ∃ U, marksD xs s4 kk = U := ⟨_, rfl⟩
    have HONE := hide (one_n hd0 HU.out HP.out hR hK hM)
    have HRU := hide hR
    have HKU := hide hK
    have HMU := hide hM
    clear hR hK hM hd0 r0 r1
    go_wp2_with fail
    rw [HW4.out]
    refine (takerune_s g xs s2 w4 HR3.out hb hl).mono ?_
    rw [HRU.out]
    rintro e w5 ⟨rfl, ho5, hr5⟩
    have hc5 := HC3.out.far ho5 (Ne.symm hq2)
    have hd5 := HD3.out.far ho5 (Ne.symm hq1)
    have HO5 := hide (only_putq (HO3.out.trans ho5) hq4 (i := 0) (.int .i32 r))
    have HR5 := hide (hr5.putq (i := 0) (x := .int .i32 r) hd5 (by decide) hq1)
    have HC5 := hide (whole_put (o := 0) hc5 hq3 (.int .i32 r))
    have HD5 : Hid (Whole (w5.setCell ⟨q, 0, none⟩ (.int .i32 r)) q 127 [.int .i32 r, .int .i32 0, .int .i32 0, .int .u8 (d : Int), .int .u8 (F : Int), .int .u8 (G : Int), .int .u8 (B : Int)]) := hd5.put 0 _
    have HS5 := hide ((ho5.spans HS3.out HGZ.out).putq (i := 0) HQZ.out (.int .i32 r))
    have z0 := hd5.frozen 0
    have k0 := hd5.cell 0
    have l5 := hd5.lt
    simp only [List.getElem?_cons_zero] at k0
    obtain ⟨w6, hw6⟩ : ∃ w6, w5.setCell ⟨q, 0, none⟩ (.int .i32 r) = w6 := ⟨_, rfl⟩
    rw [hw6] at HO5 HR5 HC5 HD5 HS5
    have HW6 := hide hw6
    clear ho5 hr5 hc5 hd5 hw6 k0' k1' k2' k3' k4 k5 k6 z4 z5 z6 l3
    go_wp2_with fail
    rw [HW6.out]
    refine (takemarks_s g xs s3 w6 HR5.out hb hl).mono ?_
    rw [HKU.out]
    simp only
    rw [HMU.out]
    rintro e w7 ⟨rfl, ho7, hr7⟩
    have hc7 := HC5.out.far ho7 (Ne.symm hq2)
    have hd7 := HD5.out.far ho7 (Ne.symm hq1)
    have HO8 := hide (only_putq (only_putq (HO5.out.trans ho7) hq4 (i := 1) (.int .i32 m)) hq4 (i := 2) (.int .i32 n))
    have HR8 := hide ((hr7.putq (i := 1) (x := .int .i32 m) hd7 (by decide) hq1).putq (i := 2) (x := .int .i32 n) (hd7.put 1 _) (by decide) hq1)
    have HC8 := hide (whole_put (o := 2) (whole_put (o := 1) hc7 hq3 (.int .i32 m)) hq3 (.int .i32 n))
    have HD8 : Hid (Whole ((w7.setCell ⟨q, 1, none⟩ (.int .i32 m)).setCell ⟨q, 2, none⟩ (.int .i32 n)) q 127 [.int .i32 r, .int .i32 m, .int .i32 n, .int .u8 (d : Int), .int .u8 (F : Int), .int .u8 (G : Int), .int .u8 (B : Int)]) := (hd7.put 1 _).put 2 _
    have HS8 := hide (((ho7.spans HS5.out HGZ.out).putq (i := 1) HQZ.out (.int .i32 m)).putq (i := 2) HQZ.out (.int .i32 n))
    have z1 := hd7.frozen 1
    have z2 := hd7.frozen 2
    have k1 := hd7.cell 1
    have k2 := hd7.cell 2
    have j0 := hd7.cell 0
    have j3 := hd7.cell 3
    have j4 := hd7.cell 4
    have j5 := hd7.cell 5
    have j6 := hd7.cell 6
    have l7 := hd7.lt
    simp only [List.getElem?_cons_zero, List.getElem?_cons_succ] at k1 k2 j0 j3 j4 j5 j6
    obtain ⟨w8, hw8⟩ : ∃ w8, (w7.setCell ⟨q, 1, none⟩ (.int .i32 m)).setCell ⟨q, 2, none⟩ (.int .i32 n) = w8 := ⟨_, rfl⟩
    rw [hw8] at HO8 HR8 HC8 HD8 HS8
    have HW8 := hide hw8
    clear ho7 hr7 hc7 hd7 hw8 k0 z0 l5
    cases ok
    · have HQ := hide (oneS_bad (t := s5.1) (E := s5.2) (c := ⟨r, m, n, d, ⟨F, G, B⟩⟩) (ok := false) (.inl rfl))
      go_wp2_with fail
      rw [HW8.out]
      refine (fail_s g xs s5 3 (by decide) w8 HR8.out).mono ?_
      rintro e w10 ⟨rfl, ho10, hr10⟩
      have HO10 := hide (HO8.out.trans ho10)
      have HR10 := hide hr10
      have HC10 := hide (HC8.out.far ho10 (Ne.symm hq2))
      have HD10 := hide (HD8.out.far ho10 (Ne.symm hq1))
      clear ho10 hr10
      obtain ⟨c0, c1, c2, c3, c4, c5, c6, -⟩ := cells7 HD10.out
      obtain ⟨e0, e1, e2, e3, e4, e5, e6, ez⟩ := cells7 HC10.out
      have y0 := ez 0
      have y1 := ez 1
      have y2 := ez 2
      have y3 := ez 3
      have y4 := ez 4
      have y5 := ez 5
      have y6 := ez 6
      have lq := HC10.out.lt
      clear ez
      go_wp2
      refine ret7 Tryd.results93 (.inl rfl) rfl rfl (put7 HC10.out _ _ _ _ _ _ _) ?_
      rw [HONE.out, HQ.out]
      exact ⟨rfl, only_put7 HO10.out (Nat.le_refl _) _ _ _ _ _ _ _, rds_put7 HR10.out HC10.out hq2 _ _ _ _ _ _ _⟩
    · cases hr : rightC ⟨r, m, n, d, ⟨F, G, B⟩⟩
      · have HQ := hide (oneS_bad (t := s5.1) (E := s5.2) (ok := true) (.inr hr))
        have HRT := hide hr
        clear hr
        obtain ⟨c0, c1, c2, c3, c4, c5, c6, -⟩ := cells7 HD8.out
        have lq := HD8.out.lt
        go_wp2_with fail
        rw [HW8.out]
        refine (cright_any r m n d F G B (by omega) w8 HS8.out).mono ?_
        rintro e w9 ⟨rfl, hb9⟩
        rw [HRT.out]
        have HO9 := hide (only_below HO8.out hb9)
        have HR9 := hide (HR8.out.later hb9)
        have HC9 := hide (HC8.out.later hb9)
        have HD9 := hide (HD8.out.later hb9)
        clear hb9 c0 c1 c2 c3 c4 c5 c6 lq
        go_wp2_with fail
        refine (fail_s g xs s5 3 (by decide) w9 HR9.out).mono ?_
        rintro e w10 ⟨rfl, ho10, hr10⟩
        have HO10 := hide (HO9.out.trans ho10)
        have HR10 := hide hr10
        have HC10 := hide (HC9.out.far ho10 (Ne.symm hq2))
        have HD10 := hide (HD9.out.far ho10 (Ne.symm hq1))
        clear ho10 hr10
        obtain ⟨c0, c1, c2, c3, c4, c5, c6, -⟩ := cells7 HD10.out
        obtain ⟨e0, e1, e2, e3, e4, e5, e6, ez⟩ := cells7 HC10.out
        have y0 := ez 0
        have y1 := ez 1
        have y2 := ez 2
        have y3 := ez 3
        have y4 := ez 4
        have y5 := ez 5
        have y6 := ez 6
        have lq := HC10.out.lt
        clear ez
        go_wp2
        refine ret7 Tryd.results93 (.inl rfl) rfl rfl (put7 HC10.out _ _ _ _ _ _ _) ?_
        rw [HONE.out, HQ.out]
        exact ⟨rfl, only_put7 HO10.out (Nat.le_refl _) _ _ _ _ _ _ _, rds_put7 HR10.out HC10.out hq2 _ _ _ _ _ _ _⟩
      · have HQ := hide (oneS_good (t := s5.1) (E := s5.2) hr)
        have HRT := hide hr
        clear hr
        obtain ⟨c0, c1, c2, c3, c4, c5, c6, -⟩ := cells7 HD8.out
        have lq := HD8.out.lt
        go_wp2_with fail
        rw [HW8.out]
        refine (cright_any r m n d F G B (by omega) w8 HS8.out).mono ?_
        rintro e w9 ⟨rfl, hb9⟩
        rw [HRT.out]
        have HO9 := hide (only_below HO8.out hb9)
        have HR9 := hide (HR8.out.later hb9)
        have HC9 := hide (HC8.out.later hb9)
        have HD9 := hide (HD8.out.later hb9)
        clear hb9 c0 c1 c2 c3 c4 c5 c6 lq
        obtain ⟨c0, c1, c2, c3, c4, c5, c6, -⟩ := cells7 HD9.out
        obtain ⟨e0, e1, e2, e3, e4, e5, e6, ez⟩ := cells7 HC9.out
        have y0 := ez 0
        have y1 := ez 1
        have y2 := ez 2
        have y3 := ez 3
        have y4 := ez 4
        have y5 := ez 5
        have y6 := ez 6
        have lq := HC9.out.lt
        clear ez
        go_wp2
        refine ret7 Tryd.results93 (.inl rfl) rfl rfl (put7 HC9.out _ _ _ _ _ _ _) ?_
        rw [HONE.out, HQ.out]
        exact ⟨rfl, only_put7 HO9.out (Nat.le_refl _) _ _ _ _ _ _ _, rds_put7 HR9.out HC9.out hq2 _ _ _ _ _ _ _⟩
/-! The document's reader: a struct of the bytes, the place, the error, handed in and out by value. -/
def R (a : Option Addr) (n c : Nat) (t E : Int) : Value := .agg #[.slice a n c, .int .i64 t, .int .i64 E]

theorem rdone (a : Option Addr) (n c : Nat) (xs : List Int) (t : Nat) (E : Int) (w : World) (hl : xs.length = n) :
    Calls Tryd.prog 20 #[.agg #[.slice a n c, .int .i64 t, .int .i64 E]] w fun e w' => e = .returned (.int .i64 (dVal xs t E)) ∧ Below w.heap.size w w' := by
  subst hl
  unfold dVal
  by_cases hE : E = 0
  · subst hE
    by_cases ht : t < xs.length
    · simp only [ht, and_self, if_true]
      go_enter Tryd.func20, Tryd.ntmps20
      go_wp2
      go_ret
      exact ⟨rfl, (Below.refl _ _).alloc (Nat.le_refl _) _⟩
    · have ht' : decide (t < xs.length) = false := by simpa using ht
      simp only [ht, and_false, if_false]
      go_enter Tryd.func20, Tryd.ntmps20
      go_wp2
      go_ret
      exact ⟨rfl, (Below.refl _ _).alloc (Nat.le_refl _) _⟩
  · have hE' : (E == 0) = false := by simpa using hE
    simp only [hE, false_and, if_false]
    clear hE
    go_enter Tryd.func20, Tryd.ntmps20
    go_wp2
    go_ret
    exact ⟨rfl, (Below.refl _ _).alloc (Nat.le_refl _) _⟩

theorem below2 (w : World) (x y : Obj) : Below w.heap.size w ((w.alloc x).alloc y) := ((Below.refl _ _).alloc (Nat.le_refl _) _).alloc (by simp) _

theorem rfail (a : Option Addr) (n c : Nat) (t : Nat) (E x : Int) (w : World) :
    Calls Tryd.prog 78 #[.agg #[.slice a n c, .int .i64 t, .int .i64 E], .int .i64 x] w fun e w' => e = .returned (.agg #[.slice a n c, .int .i64 t, .int .i64 (fEr E x)]) ∧ Below w.heap.size w w' := by
  unfold fEr
  by_cases hE : E = 0
  · subst hE
    go_enter Tryd.func78, Tryd.ntmps78
    go_wp2
    exact bodyPost_ret (v := .agg #[.slice a n c, .int .i64 t, .int .i64 x]) (by simp [results, Tryd.results78, go_sem]) rfl ⟨rfl, below2 w _ _⟩
  · have hE' : (E == 0) = false := by simpa using hE
    simp only [hE, if_false]
    clear hE
    go_enter Tryd.func78, Tryd.ntmps78
    go_wp2
    exact bodyPost_ret (v := .agg #[.slice a n c, .int .i64 t, .int .i64 E]) (by simp [results, Tryd.results78, go_sem]) rfl ⟨rfl, below2 w _ _⟩

theorem rnumber (a : Option Addr) (n c : Nat) (xs : List Int) (t : Nat) (E : Int) (w : World) (hi : Ints .u8 w a xs) (hl : xs.length = n) (hb : Byte xs) (hn : n ≤ 1000000) (hc : n ≤ c) (ht : t ≤ n) :
    Calls Tryd.prog 18 #[.agg #[.slice a n c, .int .i64 t, .int .i64 E]] w fun e w' =>
      e = .returned (.tuple #[.agg #[.slice a n c, .int .i64 (nu_nAt xs t E), .int .i64 (nEr xs t E)], .int .u64 (nVal xs t E)]) ∧ Below w.heap.size w w' := by
  unfold nu_nAt nEr nVal
  by_cases hE : E = 0
  · subst hE
    obtain ⟨N, k, er, hr, hk⟩ := rd_some xs t hb
    have HR := hide hr
    have HL := hide hl
    have hkn : k ≤ n := by omega
    have hcut := (hi.alloc (.cells #[.slice a n c, .int .i64 t, .int .i64 0] 52)).alloc (.cells #[.slice none 0 0, .int .i64 0, .int .i64 0] 52)
    have hd : (xs.drop t).length = n - t := by rw [List.length_drop, hl]
    have HD := hide hd
    simp only [if_true, hr, Int.toNat_natCast]
    clear hr hl hd hk hi
    by_cases hct : c = t
    · subst hct
      have HR' : Hid (rd 0 0 [] = (N, (k : Int), er)) := by have := HR.out; rwa [List.drop_eq_nil_of_le (by rw [HL.out]; omega)] at this
      go_enter Tryd.func18, Tryd.ntmps18
      go_wp2_with fail
      refine (rread_any a 0 0 [] _ .nil rfl (by omega) (fun x hx => by cases hx)).mono ?_
      rintro e w' ⟨rfl, rfl⟩
      rw [HR'.out]
      go_wp2
      exact bodyPost_ret (v := .tuple #[.agg #[.slice a n c, .int .i64 ((c : Int) + (k : Int)), .int .i64 er], .int .u64 N]) (by simp [results, Tryd.results18, go_sem]) rfl ⟨rfl, below2 w _ _⟩
    · go_enter Tryd.func18, Tryd.ntmps18
      go_wp2_with fail
      refine (rread_any _ _ _ (xs.drop t) _ (hcut.drop t) HD.out (by omega) (byte_drop hb t)).mono ?_
      rintro e w' ⟨rfl, rfl⟩
      rw [HR.out]
      go_wp2
      exact bodyPost_ret (v := .tuple #[.agg #[.slice a n c, .int .i64 ((t : Int) + (k : Int)), .int .i64 er], .int .u64 N]) (by simp [results, Tryd.results18, go_sem]) rfl ⟨rfl, below2 w _ _⟩
  · have hE' : (E != 0) = true := by simpa using hE
    simp only [hE, if_false]
    clear hE hi hl hb
    go_enter Tryd.func18, Tryd.ntmps18
    go_wp2
    exact bodyPost_ret (v := .tuple #[.agg #[.slice a n c, .int .i64 t, .int .i64 E], .int .u64 0]) (by simp [results, Tryd.results18, go_sem]) rfl ⟨rfl, below2 w _ _⟩
/-- What a call that makes new blocks leaves of two blocks of three cells that were made ahead of it. -/
structure nu_Two (s t : TypeId) (w w1 : World) (x0 x1 x2 y0 y1 y2 : Value) : Prop where
  a0 : w1.cell? ⟨w.heap.size, 0, none⟩ = some x0
  a1 : w1.cell? ⟨w.heap.size, 1, none⟩ = some x1
  a2 : w1.cell? ⟨w.heap.size, 2, none⟩ = some x2
  b0 : w1.cell? ⟨w.heap.size + 1, 0, none⟩ = some y0
  b1 : w1.cell? ⟨w.heap.size + 1, 1, none⟩ = some y1
  b2 : w1.cell? ⟨w.heap.size + 1, 2, none⟩ = some y2
  fa : ∀ i, w1.frozen? ⟨w.heap.size, i, none⟩ = false
  fb : ∀ i, w1.frozen? ⟨w.heap.size + 1, i, none⟩ = false
  z : w.heap.size + 1 < w1.heap.size
  z0 : w.heap.size < w1.heap.size
  wa : Whole w1 w.heap.size s [x0, x1, x2]
  wb : Whole w1 (w.heap.size + 1) t [y0, y1, y2]
theorem two_mk {w w1 : World} {x0 x1 x2 y0 y1 y2 : Value} {s t : TypeId}
    (hb : Below ((w.alloc (.cells #[x0, x1, x2] s)).alloc (.cells #[y0, y1, y2] t)).heap.size ((w.alloc (.cells #[x0, x1, x2] s)).alloc (.cells #[y0, y1, y2] t)) w1) : nu_Two s t w w1 x0 x1 x2 y0 y1 y2 := by
  have h0 : Whole w1 w.heap.size s [x0, x1, x2] := ((Whole.new w s [x0, x1, x2]).alloc (.cells #[y0, y1, y2] t)).later hb
  have h1 : Whole w1 (w.heap.size + 1) t [y0, y1, y2] := by
    have := (Whole.new (w.alloc (.cells #[x0, x1, x2] s)) t [y0, y1, y2]).later hb
    simpa using this
  exact ⟨by simpa using h0.cell 0, by simpa using h0.cell 1, by simpa using h0.cell 2, by simpa using h1.cell 0, by simpa using h1.cell 1, by simpa using h1.cell 2, h0.frozen, h1.frozen, h1.lt, h0.lt, h0, h1⟩

theorem rup (a : Option Addr) (n c : Nat) (xs : List Int) (t : Nat) (E most er : Int) (w : World) (hi : Ints .u8 w a xs) (hl : xs.length = n) (hb : Byte xs) (hn : n ≤ 1000000) (hc : n ≤ c) (ht : t ≤ n) (m1 : most ≤ 9223372036854775807) :
    Calls Tryd.prog 35 #[.agg #[.slice a n c, .int .i64 t, .int .i64 E], .int .i64 most, .int .i64 er] w fun e w' =>
      e = .returned (.tuple #[.agg #[.slice a n c, .int .i64 (uAt xs t E most), .int .i64 (uEr xs t E most er)], .int .i64 (uVal xs t E most)]) ∧ Below w.heap.size w w' := by
  have hbl := below2 w (.cells #[.slice a n c, .int .i64 t, .int .i64 E] 52) (.cells #[.slice none 0 0, .int .i64 0, .int .i64 0] 52)
  have KEY := hide (rnumber a n c xs t E _ (hi.below hbl) hl hb hn hc ht)
  obtain ⟨v0, v1, v2⟩ := nVal_bd xs t E hb
  unfold uAt uEr uVal
  generalize nu_nAt xs t E = T at *
  generalize nEr xs t E = X at *
  generalize nVal xs t E = V at *
  clear hi hl hb
  by_cases hX : X = 0
  · subst hX
    clear v2
    by_cases h0 : most < 0
    · have ho : nu_over most V = true := by simp [nu_over, h0]
      simp only [ho, and_self, if_true]
      have h0' : decide (most < 0) = true := by simpa using h0
      clear ho
      go_enter Tryd.func35, Tryd.ntmps35
      go_wp2_with fail
      refine KEY.out.mono ?_
      rintro e w1 ⟨rfl, hb1⟩
      obtain ⟨a0, a1, a2, b0, b1, b2, fa, fb, z, z0, _, _⟩ := two_mk hb1
      have hbw1 : Below w.heap.size w w1 := hbl.trans (hb1.mono hbl.size)
      have fa2 := fa 2
      have fb0 := fb 0
      have fb1 := fb 1
      have fb2 := fb 2
      clear fa fb
      go_wp2
      exact bodyPost_ret (v := .tuple #[.agg #[.slice a n c, .int .i64 t, .int .i64 er], .int .i64 0]) (by simp [results, Tryd.results35, go_sem, *]) rfl ⟨rfl, (by repeat (first | exact hbw1 | refine Below.alloc ?_ (by simp; omega) _ | refine Below.setCell ?_ (by simp) _))⟩
    · have h0' : decide (most < 0) = false := by simpa using h0
      by_cases hV : most < V
      · have ho : nu_over most V = true := by simp [nu_over, hV]
        simp only [ho, and_self, if_true]
        clear ho
        go_enter Tryd.func35, Tryd.ntmps35
        go_wp2_with fail
        refine KEY.out.mono ?_
        rintro e w1 ⟨rfl, hb1⟩
        obtain ⟨a0, a1, a2, b0, b1, b2, fa, fb, z, z0, _, _⟩ := two_mk hb1
        have hbw1 : Below w.heap.size w w1 := hbl.trans (hb1.mono hbl.size)
        have fa2 := fa 2
        have fb0 := fb 0
        have fb1 := fb 1
        have fb2 := fb 2
        clear fa fb
        go_wp2
        exact bodyPost_ret (v := .tuple #[.agg #[.slice a n c, .int .i64 t, .int .i64 er], .int .i64 0]) (by simp [results, Tryd.results35, go_sem, *]) rfl ⟨rfl, (by repeat (first | exact hbw1 | refine Below.alloc ?_ (by simp; omega) _ | refine Below.setCell ?_ (by simp) _))⟩
      · have ho : nu_over most V = false := by simp [nu_over]; omega
        simp only [ho, Bool.false_eq_true, and_false, if_false]
        have hV' : decide (most < V) = false := by simpa using hV
        have hV2 : V ≤ 9223372036854775807 := by omega
        clear ho
        go_enter Tryd.func35, Tryd.ntmps35
        go_wp2_with fail
        refine KEY.out.mono ?_
        rintro e w1 ⟨rfl, hb1⟩
        obtain ⟨a0, a1, a2, b0, b1, b2, fa, fb, z, z0, _, _⟩ := two_mk hb1
        have hbw1 : Below w.heap.size w w1 := hbl.trans (hb1.mono hbl.size)
        have fa2 := fa 2
        have fb0 := fb 0
        have fb1 := fb 1
        have fb2 := fb 2
        clear fa fb
        go_wp2
        exact bodyPost_ret (v := .tuple #[.agg #[.slice a n c, .int .i64 T, .int .i64 0], .int .i64 V]) (by simp [results, Tryd.results35, go_sem, *]) rfl ⟨rfl, (by repeat (first | exact hbw1 | refine Below.alloc ?_ (by simp; omega) _ | refine Below.setCell ?_ (by simp) _))⟩
  · obtain rfl : V = 0 := v2 hX
    have hX' : (X == 0) = false := by simpa using hX
    simp only [hX, false_and, if_false]
    clear hX v2
    go_enter Tryd.func35, Tryd.ntmps35
    go_wp2_with fail
    refine KEY.out.mono ?_
    rintro e w1 ⟨rfl, hb1⟩
    obtain ⟨a0, a1, a2, b0, b1, b2, fa, fb, z, z0, _, _⟩ := two_mk hb1
    have hbw1 : Below w.heap.size w w1 := hbl.trans (hb1.mono hbl.size)
    have fa2 := fa 2
    have fb0 := fb 0
    have fb1 := fb 1
    have fb2 := fb 2
    clear fa fb
    go_wp2
    exact bodyPost_ret (v := .tuple #[.agg #[.slice a n c, .int .i64 T, .int .i64 X], .int .i64 0]) (by simp [results, Tryd.results35, go_sem, *]) rfl ⟨rfl, (by repeat (first | exact hbw1 | refine Below.alloc ?_ (by simp; omega) _ | refine Below.setCell ?_ (by simp) _))⟩
end
end Go.Proofs.YtcbdokocnjoilaaDoor
