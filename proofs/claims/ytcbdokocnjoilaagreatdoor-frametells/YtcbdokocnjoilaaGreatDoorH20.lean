/-
  Contracts and plain mathematics of DeRef2, DeRef3, DeRef4, DeKnown, DeWalkB, FmMath.
-/
import Derived.Test.YtcbdokocnjoilaaGreatDoorH19
import Derived.Test.YtcbdokocnjoilaaGreatDoorH9
import Derived.Test.YtcbdokocnjoilaaGreatDoorH15
import Derived.Test.YtcbdokocnjoilaaGreatDoorH13
import Derived.BigQuiet
import Derived.Test.YtcbdokocnjoilaaGreatDoorH17
import Derived.Test.YtcbdokocnjoilaaGreatDoorH16
import Derived.Test.YtcbdokocnjoilaaGreatDoorH7
import Derived.Test.YtcbdokocnjoilaaGreatDoorH18
namespace Go.Proofs.YtcbdokocnjoilaaGreatDoor
set_option maxRecDepth 100000
set_option linter.unusedVariables false
set_option maxHeartbeats 8000000
section
open Go.ChangeShapes Go.WideShapes Go.ChangeAt Go.RowKit
theorem u64_same (x : Int) (h : 0 ≤ x) (h2 : x ≤ 1000000) : IntKind.u64.wrap x = x := by rw [IntKind.wrap_u64]; omega
theorem rdebytes_any (C : Nat) (te t : TypeId) (d : Df) (A : Option Addr) (n c : Nat) (w : World) (h : Sps C te t .i64 w A d.ss) (hC : C ≤ w.heap.size) (hn : d.ss.length = n) (ht : 5 ≠ t) (hd : checkDe d = 0) (hsz : (bytesSs d.ss).length ≤ 300000) :
    Calls Tryz.prog 28 #[.agg #[.int .i64 d.rows, .int .i64 d.cols, .int .i64 d.row, .int .i64 d.col, .slice A n c]] w (Made 5 .u8 w (bytesDe d)) := by
  have hhd := bytesDe_head d
  have hhl := headB_len d
  have hun : headB d = encAll [d.rows, d.cols, d.row, d.col, (d.ss.length : Int)] := rfl
  rw [hn] at hun
  have hfn := fine_of hd
  have hbd := check_bd hfn.1
  obtain ⟨hd0, hhd0⟩ : ∃ l, headB d = l := ⟨_, rfl⟩
  rw [hhd0] at hun hhl hhd
  obtain ⟨X, hX⟩ : ∃ X, bytesDe d = X := ⟨_, rfl⟩
  rw [hX] at hhd ⊢
  have hev := hfn.2.each
  clear hX hd hhd0 hfn
  obtain ⟨R, K, r0, l0, ss⟩ := d
  simp only at h hn hsz hhd hun hev ⊢
  obtain ⟨a0, a1, b0, b1, c0, c1, f0, f1, hm, heach⟩ := hbd
  simp only at a0 a1 b0 b1 c0 c1 f0 f1 hm heach
  rw [hn] at hm heach
  have HEA := hide heach
  clear heach
  obtain ⟨W0, hW0⟩ : ∃ W0, w.alloc (.cells #[.int .i64 R, .int .i64 K, .int .i64 r0, .int .i64 l0, .slice A n c] 32) = W0 := ⟨_, rfl⟩
  have HB0 : Hid (Below w.heap.size w W0) := by unfold Hid; rw [← hW0]; exact new1W _ _
  have HX0 : Hid (Whole W0 w.heap.size 32 [.int .i64 R, .int .i64 K, .int .i64 r0, .int .i64 l0, .slice A n c]) := by unfold Hid; rw [← hW0]; exact Whole.new w 32 [.int .i64 R, .int .i64 K, .int .i64 r0, .int .i64 l0, .slice A n c]
  obtain ⟨W1, hW1⟩ : ∃ W1, W0.alloc (.cells #[.int .u64 R, .int .u64 K, .int .u64 r0, .int .u64 l0, .int .u64 (n : Int)] 22) = W1 := ⟨_, rfl⟩
  have hb1 : Below W0.heap.size W0 W1 := by rw [← hW1]; exact new1W _ _
  have hi1 : Ints .u64 W1 (some ⟨W0.heap.size, 0, none⟩) [R, K, r0, l0, (n : Int)] := by rw [← hW1]; exact Ints.new .u64 W0 22 [R, K, r0, l0, (n : Int)]
  have KEY := hide (nu_all_any _ 5 5 [R, K, r0, l0, (n : Int)] W1 hi1 rfl (by omega) (by simp; omega))
  have HX1 := hide (HX0.out.later hb1)
  have HB1 := hide (HB0.out.trans (hb1.mono HB0.out.size))
  have w1 := u64_same R a0 (by omega)
  have w2 := u64_same K b0 (by omega)
  have w3 := u64_same r0 c0 (by omega)
  have w4 := u64_same l0 f0 (by omega)
  have w5 := u64_same (n : Int) (by omega) (by omega)
  have HW0 := hide hW0
  have HW1 := hide hW1
  have HA := hide h
  have HC := hide hC
  have HN := hide hn
  have HEV := hide hev
  have HSZ := hide hsz
  have HHD := hide hhd
  have HUN := hide hun
  clear hW0 hW1 hb1 hi1 h hC hn hev hsz hhd hun
  obtain ⟨d0, d1, d2, d3, d4, ld⟩ := cells5 HX0.out
  go_enter Tryz.func28, Tryz.ntmps28
  go_upto_region 1 with fail
  rw [HW0.out]
  go_wp2_with fail
  rw [HW1.out]
  refine KEY.out.mono ?_
  rw [← HUN.out]
  rintro e v2 ⟨x, rfl, ho⟩
  have HX2 := hide (HX1.out.later ho.bel)
  have HB2 := hide (HB1.out.trans (ho.bel.mono HB1.out.size))
  have HO2 : Hid (Own 5 .u8 w.heap.size v2 v2 x hd0) := (ho.from HB1.out HB1.out.size).now
  clear ho d0 d1 d2 d3 d4 ld w1 w2 w3 w4 w5
  go_wp2
  go_loopw [3, 4, 5] (fun v i _ wr => ∃ k : Nat, k ≤ n ∧ i = .int .i64 k ∧ Hid (Own 5 .u8 w.heap.size wr wr v (hd0 ++ bytesSs (ss.take k))) ∧ Hid (Whole wr w.heap.size 32 [.int .i64 R, .int .i64 K, .int .i64 r0, .int .i64 l0, .slice A n c]) ∧ Hid (Below w.heap.size w wr)) (fun _ i _ _ => n - (intOf i).toNat)
  case atStart => exact ⟨0, Nat.zero_le _, rfl, by unfold Hid; rw [List.take_zero, show bytesSs [] = [] from rfl, List.append_nil]; exact HO2.out, HX2, HB2⟩
  case round =>
    obtain ⟨k, hk, rfl, HOk, HXk, HBk⟩ := hrel
    obtain ⟨d0, d1, d2, d3, d4, ld⟩ := cells5 HXk.out
    by_cases hlt : k < n
    · have hks : k < ss.length := by rw [HN.out]; exact hlt
      obtain ⟨b, off, A1, c1', rfl, lb, x0, x1, x2, xi, hcap, hnone⟩ := (HA.out.below HBk.out HC.out).at (i := k) hks
      have hin := HEA.out k hlt
      have hfi := (HEV.out _ (mem_sAt ss k hks)).right
      have hnx := bytesSs_next ss k hks
      have hnl := bytesSs_take ss (k + 1)
      have hkl := bytesSs_take ss k
      rw [hnx] at hnl
      obtain ⟨x, hx⟩ : ∃ x, sAt ss k = x := ⟨_, rfl⟩
      rw [hx] at x0 x1 x2 xi hcap hin hfi hnx hnl
      obtain ⟨r, l, cs⟩ := x
      simp only at x0 x1 x2 xi hcap hfi hnx hnl
      obtain ⟨g0, g1, g2, g3, g4⟩ := hin
      simp only at g0 g1 g2 g3 g4
      obtain ⟨u, hu⟩ : ∃ u, cs.length = u := ⟨_, rfl⟩
      rw [hu] at x2 hcap g4
      have hsz := HSZ.out
      have HNX : Hid (hd0 ++ bytesSs (ss.take (k + 1)) = (hd0 ++ bytesSs (ss.take k)) ++ (encAll [r, l]) ++ bytesR cs) := by unfold Hid; rw [hnx]; simp only [List.append_assoc]
      obtain ⟨hk0, hhk0⟩ : ∃ l, hd0 ++ bytesSs (ss.take k) = l := ⟨_, rfl⟩
      rw [hhk0] at HOk HNX
      have hk0l : hk0.length ≤ 300100 := by rw [← hhk0, List.length_append]; omega
      have hrl : (bytesR cs).length ≤ 300000 := by simp only [List.length_append] at hnl; omega
      have hel := encAll_len [r, l]
      simp only [List.length_cons, List.length_nil] at hel
      clear hnx hnl hkl hx hks hhk0
      have w1 := u64_same r g0 (by omega)
      have w2 := u64_same l g2 (by omega)
      obtain ⟨A3, c3, hv3, -⟩ := HOk.out.form2
      obtain ⟨L3, hL3⟩ : ∃ L3, hk0.length = L3 := ⟨_, rfl⟩
      rw [hL3] at hv3 hk0l
      subst hv3
      have HL3 := hide hL3
      clear hL3
      obtain ⟨W4, hW4⟩ : ∃ W4, wr.alloc (.cells #[.int .i64 r, .int .i64 l, .slice A1 u c1'] 73) = W4 := ⟨_, rfl⟩
      have hb4 : Below wr.heap.size wr W4 := by rw [← hW4]; exact new1W _ _
      have HQ4 : Hid (Whole W4 wr.heap.size 73 [.int .i64 r, .int .i64 l, .slice A1 u c1']) := by unfold Hid; rw [← hW4]; exact Whole.new wr 73 [.int .i64 r, .int .i64 l, .slice A1 u c1']
      obtain ⟨W5, hW5⟩ : ∃ W5, W4.alloc (.cells #[.int .u64 r, .int .u64 l] 22) = W5 := ⟨_, rfl⟩
      have hb5 : Below W4.heap.size W4 W5 := by rw [← hW5]; exact new1W _ _
      have hi5 : Ints .u64 W5 (some ⟨W4.heap.size, 0, none⟩) [r, l] := by rw [← hW5]; exact Ints.new .u64 W4 22 [r, l]
      have KEY2 := hide (nu_all_any _ 2 2 [r, l] W5 hi5 rfl (by omega) (by simp; omega))
      have HB5 := hide (hb4.trans (hb5.mono hb4.size))
      have HQ5 := hide (HQ4.out.later hb5)
      have HXI := hide xi
      have HU := hide hu
      have HFI := hide hfi
      have HW4 := hide hW4
      have HW5 := hide hW5
      clear hb4 hb5 hi5 hW4 hW5 xi hu hfi
      go_upto_region 6 with fail
      rw [HW4.out]
      clear x0 x1 x2 lb d0 d1 d2 d3 d4 ld
      obtain ⟨x0, x1, x2, lx⟩ := cells3 HQ4.out
      go_wp2_with fail
      rw [HW5.out]
      refine KEY2.out.mono ?_
      rintro e w6 ⟨y, rfl, hy⟩
      obtain ⟨A6, c6, rfl, hi6, -, hz6, -⟩ := hy.form2
      obtain ⟨L6, hL6⟩ : ∃ L6, (encAll [r, l]).length = L6 := ⟨_, rfl⟩
      rw [hL6] at hel ⊢
      have HL6 := hide hL6
      have HB6 := hide (HB5.out.trans (hy.bel.mono HB5.out.size))
      have HO6 := hide (HOk.out.later HB6.out).now
      have HI6 := hide hi6
      have HZ6 := hide hz6
      have HQ6 := hide (HQ5.out.later hy.bel)
      clear hy hi6 hz6 hL6 x0 x1 x2 lx
      go_wp2_with (at_builtin; refine stopw ?_)
      unfold Hid
      refine wpList_catG elemBytes rfl _ _ rfl rfl rfl HO6.out HI6.out HL6.out HZ6.out (by rw [HL3.out]; omega) (by omega) ?_
      intro v7 w7 ho7 st7
      obtain ⟨A7, c7, hv7, -⟩ := ho7.form2
      obtain ⟨L7, hL7⟩ : ∃ L7, (hk0 ++ encAll [r, l]).length = L7 := ⟨_, rfl⟩
      have hL7l : L7 ≤ 300200 := by rw [← hL7, List.length_append, HL3.out, HL6.out]; omega
      rw [hL7] at hv7
      subst hv7
      have HL7 := hide hL7
      have HO7 := hide ho7.now
      have HB7 : Hid (Below w.heap.size wr w7) := (HB6.out.mono HBk.out.size).trans ho7.bel
      have HQ7 := hide (Others.of HO6.out st7 wr.heap.size 73 _ (by decide) HQ6.out)
      have HX7 := hide (Others.of HO6.out st7 w.heap.size 32 _ (by decide) (HXk.out.later HB6.out))
      have HST : Hid (Stays t wr w7) := (Stays.of_below HB6.out).trans (fun b cur hb => row_other HO6.out st7 b cur t ht hb)
      clear ho7 st7 hL7
      obtain ⟨x0, x1, x2, lx⟩ := cells3 HQ7.out
      have hC7 : Cels .i64 w7 A1 cs := (HXI.out.keep (fun b hb => HB7.out.block b (Nat.lt_of_lt_of_le hb HC.out)) HST.out).cels
      go_wp2_with fail
      refine (rrbytes_any A1 u c1' cs w7 hC7 HU.out (by omega) HFI.out).mono ?_
      rintro e w8 ⟨y, rfl, hy⟩
      obtain ⟨A8, c8, rfl, hi8, -, hz8, -⟩ := hy.form2
      obtain ⟨L8, hL8⟩ : ∃ L8, (bytesR cs).length = L8 := ⟨_, rfl⟩
      rw [hL8] at hrl ⊢
      have HL8 := hide hL8
      have HO8 := hide (HO7.out.later hy.bel).now
      have HX8 := hide (HX7.out.later hy.bel)
      have HB8 : Hid (Below w.heap.size wr w8) := HB7.out.trans (hy.bel.mono HO7.out.le)
      have HI8 := hide hi8
      have HZ8 := hide hz8
      clear hy hi8 hz8 hL8 x0 x1 x2 lx hC7
      go_wp2_with (at_builtin; refine stopw ?_)
      unfold Hid
      refine wpList_catG elemBytes rfl _ _ rfl rfl rfl HO8.out HI8.out HL8.out HZ8.out (by rw [HL7.out]; omega) (by omega) ?_
      intro v9 w9 ho9 st9
      obtain ⟨A9, c9, hv9, -⟩ := ho9.form2
      obtain ⟨L9, hL9⟩ : ∃ L9, (hk0 ++ encAll [r, l] ++ bytesR cs).length = L9 := ⟨_, rfl⟩
      rw [hL9] at hv9
      subst hv9
      have HO9 := hide ho9.now
      have HX9 := hide (Others.of HO8.out st9 w.heap.size 32 _ (by decide) HX8.out)
      have HB9 : Hid (Below w.heap.size w w9) := (HBk.out.trans HB8.out).trans ho9.bel
      clear ho9 st9 hL9
      go_wp2
      go_roundw
      case rel => exact ⟨k + 1, by omega, by go_num, by rw [HNX.out]; exact HO9, HX9, HB9⟩
      case measure => simp [intOf]; omega
    · obtain rfl : k = n := by omega
      have HF : Hid (hd0 ++ bytesSs (ss.take k) = X) := by unfold Hid; rw [← HN.out, List.take_length, HHD.out]
      rw [HF.out] at HOk
      obtain ⟨A7, c7, hf7, -⟩ := HOk.out.form2
      obtain ⟨L7, hL7⟩ : ∃ L7, X.length = L7 := ⟨_, rfl⟩
      rw [hL7] at hf7
      subst hf7
      clear hL7
      go_wp2
      go_ret
      exact ⟨_, rfl, ⟨HOk.out.own, HBk.out, HOk.out.le⟩⟩
theorem whole_4th (w : World) (o o2 o3 : Obj) (t : TypeId) (l : List Value) : Whole ((((w.alloc o).alloc o2).alloc o3).alloc (.cells l.toArray t)) (w.heap.size + 3) t l := by
  have h := Whole.new (((w.alloc o).alloc o2).alloc o3) t l
  have e : (((w.alloc o).alloc o2).alloc o3).heap.size = w.heap.size + 3 := by simp
  rw [e] at h
  exact h
theorem take_t {xs : List Int} {s : Nat × Int} (hb : Byte xs) (ht : s.1 ≤ xs.length) : (takeD xs s).1.1 ≤ xs.length := by
  unfold takeD
  simp only
  split
  · exact loop_t hb (up_t hb ht) _
  · exact loop_t hb (up_t hb ht) _
theorem span_t {xs : List Int} {s : Nat × Int} (hb : Byte xs) (ht : s.1 ≤ xs.length) : (spanD xs s).1.1 ≤ xs.length := take_t hb (up_t hb (up_t hb ht))
theorem dloop_t {xs : List Int} {s : Nat × Int} (hb : Byte xs) (ht : s.1 ≤ xs.length) : ∀ j, (dloopD xs s j).1.1 ≤ xs.length
  | 0 => ht
  | j + 1 => by
    have ih := dloop_t hb ht j
    show (if (dloopD xs s j).1.2 = 0 then ((spanD xs (dloopD xs s j).1).1, (dloopD xs s j).2 ++ [(spanD xs (dloopD xs s j).1).2]) else dloopD xs s j).1.1 ≤ xs.length
    split
    · exact span_t hb ih
    · exact ih
/-- Where a block that isn't the row's own has turned. -/
theorem OwnS.far {C : Nat} {te t : TypeId} {k : IntKind} {B q : Nat} {wr w1 : World} {v : Value} {ss : List Sp} (h : OwnS C te t k B wr wr v ss) (ho : Only q wr w1) (hv : v.ownBlock ≠ some q) (hl : ∀ b, b < C → w1.heap[b]? = wr.heap[b]?) (hs : Stays t wr w1) : OwnS C te t k B w1 w1 v ss := by
  obtain ⟨l, he, hw, hok⟩ := h.row
  refine ⟨⟨l, he, ⟨hw.1, ?_⟩, fun x hx => (hok x hx).keep hl hs⟩, Below.refl _ _, Nat.le_trans h.le ho.size, h.cle⟩
  rcases hw.2 with h0 | ⟨g, cap, cur, hv2, hB, hh, h1⟩
  · exact .inl h0
  · refine .inr ⟨g, cap, cur, hv2, hB, (World.grownBy.block ho g (Array.getElem?_eq_some_iff.1 hh).1 ?_).trans hh, h1⟩
    intro e
    cases e
    exact hv (by rw [hv2]; rfl)
theorem OwnS.blk {C : Nat} {te t : TypeId} {k : IntKind} {B : Nat} {w wr : World} {v : Value} {ss : List Sp} (h : OwnS C te t k B w wr v ss) {g : Nat} (hg : v.ownBlock = some g) : g < wr.heap.size := by
  obtain ⟨l, he, hw, hok⟩ := h.row
  rcases hw.2 with ⟨rfl, _⟩ | ⟨g', cap, cur, rfl, _, hh, _⟩
  · cases hg
  · obtain rfl : g' = g := by simpa [Value.ownBlock] using hg
    exact (Array.getElem?_eq_some_iff.1 hh).1
section
variable {w W W' : World} {a : Option Addr} {n c : Nat} {s : Nat × Int} {a1 a2 a3 a4 : Int} {v : Value} {ss : List Sp}
theorem nob (b : Nat) {P : Prop} (h : b < 0) : P := absurd h (Nat.not_lt_zero b)
end
/-- What the document's Take leaves. -/
def TakeDN (w : World) (a : Option Addr) (n c : Nat) (x : (Nat × Int) × Df) (e : Ending) (w' : World) : Prop :=
  ∃ A cp, e = .returned (.tuple #[.agg #[.slice a n c, .int .i64 (x.1.1 : Int), .int .i64 x.1.2], .agg #[.int .i64 x.2.rows, .int .i64 x.2.cols, .int .i64 x.2.row, .int .i64 x.2.col, .slice A x.2.ss.length cp]]) ∧ DfOk 0 73 100 .i64 w' x.2 A cp ∧ Below w.heap.size w w'
theorem heap_put5' (w : World) (q : Nat) (x0 x1 x2 x3 x4 : Value) (i : Nat) (h : i ≠ q) : (((((w.setCell ⟨q, 0, none⟩ x0).setCell ⟨q, 1, none⟩ x1).setCell ⟨q, 2, none⟩ x2).setCell ⟨q, 3, none⟩ x3).setCell ⟨q, 4, none⟩ x4).heap[i]? = w.heap[i]? :=
  (Below.heap_setCell _ _ _ _ h).trans ((Below.heap_setCell _ _ _ _ h).trans (heap_put3 _ _ _ _ _ _ h))
theorem retD1E {R : Ending → World → Prop} {a : Act} {w : World} {fn : Func} {s z : Nat} {q : Nat} {x0 x1 x2 x3 x4 v : Value} (hr : fn.results = #[.cell s 32, .tmp z]) (h4 : a.tmps.getD s undef = .pointer (some ⟨q, 0, none⟩)) (h6 : a.tmps.getD z undef = v) (hd : a.defers = [])
    (hw : Whole w q 32 [x0, x1, x2, x3, x4]) (hR : R (.returned (.tuple #[.agg #[x0, x1, x2, x3, x4], v])) w) : bodyPost Tryz.prog fn R .ret a w := by
  have c0 : w.cell? ⟨q, 0, none⟩ = some x0 := hw.cell 0
  have c1 : w.cell? ⟨q, 1, none⟩ = some x1 := hw.cell 1
  have c2 : w.cell? ⟨q, 2, none⟩ = some x2 := hw.cell 2
  have c3 : w.cell? ⟨q, 3, none⟩ = some x3 := hw.cell 3
  have c4 : w.cell? ⟨q, 4, none⟩ = some x4 := hw.cell 4
  clear hw
  rw [Array.getD_eq_getD_getElem?] at h4 h6
  exact bodyPost_ret (v := .tuple #[.agg #[x0, x1, x2, x3, x4], v]) (by simp [results, hr, h4, h6, c0, c1, c2, c3, c4, go_sem]) hd hR
/-- What the document's Parse leaves. -/
def ParseDN (w : World) (x : Df × Int) (e : Ending) (w' : World) : Prop :=
  ∃ A c, e = .returned (.tuple #[.agg #[.int .i64 x.1.rows, .int .i64 x.1.cols, .int .i64 x.1.row, .int .i64 x.1.col, .slice A x.1.ss.length c], .int .i64 x.2]) ∧ DfOk 0 73 100 .i64 w' x.1 A c ∧ Below w.heap.size w w'
/-! ### the law's Same -/
def exD : Df := ⟨1, 2, 0, 1, [⟨0, 0, [⟨97, 0, 0, 1, ⟨0, 0, 0⟩⟩]⟩]⟩
theorem exD_one : exD.ss.length = 1 := rfl
theorem exD_check : checkDe exD = 0 := by decide +kernel
theorem exD_bytes : bytesDe exD = [1, 2, 0, 1, 1, 0, 0, 1, 1, 1, 0, 97, 0] := by decide +kernel
theorem exD_len : (bytesSs exD.ss).length ≤ 300000 := by decide +kernel
theorem exD_LB : ∀ s ∈ exD.ss, LB s.cs := by
  intro s hs
  simp only [exD, List.mem_cons, List.not_mem_nil, or_false] at hs
  subst hs
  exact all_LB (by decide +kernel)
theorem exD_bytes_any (W : World) (b : Nat) (h : Sps W.heap.size 68 105 .i32 W (some ⟨b, 0, none⟩) exD.ss) (hS : Spans W) :
    Calls Tryz.prog 20 #[.agg #[.int .i64 1, .int .i64 2, .int .i64 0, .int .i64 1, .slice (some ⟨b, 0, none⟩) 1 1]] W fun e w' => ∃ A c, e = .returned (.tuple #[.slice A 13 c, .int .i64 0]) ∧ Ints .u8 w' A [1, 2, 0, 1, 1, 0, 0, 1, 1, 1, 0, 97, 0] ∧ Below W.heap.size W w' := by
  have key := debytes_any W.heap.size 68 105 exD (some ⟨b, 0, none⟩) 1 1 W h (Nat.le_refl _) exD_one (by omega) exD_LB exD_len hS
  rw [show exD.rows = 1 from rfl, show exD.cols = 2 from rfl, show exD.row = 0 from rfl, show exD.col = 1 from rfl] at key
  unfold GaveDB at key
  rw [exD_check, exD_bytes] at key
  refine key.mono ?_
  rintro e w' ⟨v, he, ho⟩
  rw [if_pos rfl] at ho
  obtain ⟨A, c, hv, hi, -⟩ := ho.form2
  exact ⟨A, c, by rw [he, hv]; rfl, hi, ho.bel⟩
theorem encN_byte (n : Nat) (h : n < 18446744073709551616) : Byte (enc n) := by
  have := encAll_byte [(n : Int)] (by intro z hz; simp only [List.mem_cons, List.not_mem_nil, or_false] at hz; omega)
  rwa [encAll_one, Int.toNat_natCast] at this
theorem bytes_app {a b : List Int} (ha : Byte a) (hb : Byte b) : Byte (a ++ b) := by
  intro x hx
  rcases List.mem_append.1 hx with h | h
  · exact ha x h
  · exact hb x h
theorem bytesS_byte {s : Sp} (h : SpFine s) : Byte (bytesS s) := by
  obtain ⟨r, hr, hr2⟩ := h.row
  obtain ⟨c, hc, hc2⟩ := h.col
  unfold bytesS
  rw [hr, hc, Int.toNat_natCast, Int.toNat_natCast]
  exact bytes_app (encN_byte r (by omega)) (bytes_app (encN_byte c (by omega)) (bytesR_byte h.len h.right))
theorem bytesSs_byte {ss : List Sp} (h : ∀ s ∈ ss, SpFine s) : Byte (bytesSs ss) := by
  intro x hx
  unfold bytesSs at hx
  obtain ⟨s, hs, hx⟩ := List.mem_flatMap.1 hx
  exact bytesS_byte (h s hs) x hx
theorem bytesDe_byte {d : Df} (hd : checkDe d = 0) : Byte (bytesDe d) := by
  obtain ⟨-, ⟨a, ha, ha2⟩, ⟨b, hb, hb2⟩, ⟨c, hc, hc2⟩, ⟨e, he, he2⟩, hm, hs⟩ := fine_of hd
  unfold bytesDe
  rw [ha, hb, hc, he]
  simp only [Int.toNat_natCast]
  exact bytes_app (encN_byte a (by omega)) (bytes_app (encN_byte b (by omega)) (bytes_app (encN_byte c (by omega)) (bytes_app (encN_byte e (by omega)) (bytes_app (encN_byte _ (by omega)) (bytesSs_byte hs)))))
theorem bytesS_len (s : Sp) : (bytesS s).length ≤ 30 + 70 * s.cs.length := by
  unfold bytesS
  simp only [List.length_append]
  have h1 := (enc_len s.row.toNat).2
  have h2 := (enc_len s.col.toNat).2
  have h3 := bytesR_len s.cs
  omega
theorem bytesSs_len {ss : List Sp} (h : ∀ s ∈ ss, s.cs.length ≤ 30) : (bytesSs ss).length ≤ 2130 * ss.length := by
  induction ss with
  | nil => simp [bytesSs]
  | cons s ss ih =>
    have e : bytesSs (s :: ss) = bytesS s ++ bytesSs ss := rfl
    rw [e, List.length_append, List.length_cons]
    have h1 := bytesS_len s
    have h2 := h s (List.mem_cons_self)
    have h3 := ih (fun x hx => h x (List.mem_cons_of_mem _ hx))
    omega
theorem cut_small (d : Df) : (bytesSs (cutD d).ss).length ≤ 30000 := by
  have h1 := bytesSs_len (cut_cells d)
  have h2 : (cutD d).ss.length ≤ 10 := cutTo_len d.ss 10
  omega
theorem dfok_put {te t t' : TypeId} {k : IntKind} {w : World} {d : Df} {A : Option Addr} {c q : Nat} {l : List Value} (h : DfOk 0 te t k w d A c) (hw : Whole w q t' l) (h1 : te ≠ t') (h2 : t ≠ t') (x0 x1 x2 x3 x4 : Value) :
    DfOk 0 te t k (((((w.setCell ⟨q, 0, none⟩ x0).setCell ⟨q, 1, none⟩ x1).setCell ⟨q, 2, none⟩ x2).setCell ⟨q, 3, none⟩ x3).setCell ⟨q, 4, none⟩ x4) d A c :=
  ⟨h.sps.keep (fun b => nob b) (stays_put5 hw h2 _ _ _ _ _) (stays_put5 hw h1 _ _ _ _ _), h.cap, h.none, Nat.zero_le _⟩
theorem dec_self (x : Df) : decide (x = x) = true := decide_eq_true rfl
theorem Sps.up {C C' : Nat} {te t : TypeId} {k : IntKind} {w : World} {A : Option Addr} {ss : List Sp} (h : Sps C te t k w A ss) (hC : C ≤ C') : Sps C' te t k w A ss := by
  obtain ⟨l, he, hok, h⟩ := h
  refine ⟨l, he, fun x hx => ⟨(hok x hx).1.more hC, (hok x hx).2⟩, ?_⟩
  rcases h with h | ⟨b, off, ha, hb, hc⟩
  · exact .inl h
  · exact .inr ⟨b, off, ha, by rcases hb with q | q; exact .inl (by omega); exact .inr q, hc⟩
end
structure Fm where
  num : Int
  base : Int
  echo : Int
  stamp : Int
  d : Df
def U64 (x : Int) : Prop := 0 ≤ x ∧ x < 18446744073709551616
structure FmOk (f : Fm) : Prop where
  num : U64 f.num
  base : U64 f.base
  echo : U64 f.echo
  stamp : U64 f.stamp
def zeroFm : Fm := ⟨0, 0, 0, 0, zeroD⟩
theorem zeroFm_ok : FmOk zeroFm := ⟨⟨by decide, by decide⟩, ⟨by decide, by decide⟩, ⟨by decide, by decide⟩, ⟨by decide, by decide⟩⟩
/-! ### told -/
def bytesFm (f : Fm) : List Int := 70 :: (enc f.num.toNat ++ (enc f.base.toNat ++ (enc f.echo.toNat ++ (enc f.stamp.toNat ++ bytesDe f.d))))
def checkFm (f : Fm) : Int := if f.num ≤ f.base then 17 else if checkDe f.d = 0 then (if 65536 < (bytesFm f).length then 2 else 0) else checkDe f.d
/-! ### read -/
/-- The four numbers and the difference, from the place behind the first byte on. -/
def bodyFm (xs : List Int) (s : Nat × Int) : (Nat × Int) × Fm :=
  let a := numD xs s
  let b := numD xs a.1
  let c := numD xs b.1
  let e := numD xs c.1
  let t := takeDe xs e.1
  (t.1, ⟨a.2, b.2, c.2, e.2, t.2⟩)
/-- The error behind them. -/
def endFm (xs : List Int) (x : (Nat × Int) × Fm) : Int := if dVal xs x.1.1 x.1.2 = 0 ∧ x.2.num ≤ x.2.base then 17 else dVal xs x.1.1 x.1.2
def parseFm (xs : List Int) : Fm × Int :=
  if 65536 < xs.length then (zeroFm, 2)
  else if xs.head? = some 70 then (if endFm xs (bodyFm xs (1, 0)) = 0 then ((bodyFm xs (1, 0)).2, 0) else (zeroFm, endFm xs (bodyFm xs (1, 0))))
  else (zeroFm, 12)

theorem checkFm_zero {f : Fm} (h : checkFm f = 0) : f.base < f.num ∧ checkDe f.d = 0 ∧ (bytesFm f).length ≤ 65536 := by
  unfold checkFm at h
  split at h
  · cases h
  · rename_i h1
    split at h
    · rename_i h2
      split at h
      · cases h
      · rename_i h3
        exact ⟨by omega, h2, by omega⟩
    · rename_i h2; exact absurd h h2
theorem checkFm_of {f : Fm} (h1 : f.base < f.num) (h2 : checkDe f.d = 0) (h3 : (bytesFm f).length ≤ 65536) : checkFm f = 0 := by
  unfold checkFm
  rw [if_neg (by omega), if_pos h2, if_neg (by omega)]
theorem u64_nat {x : Int} (h : U64 x) : ∃ n : Nat, x = n ∧ n < 18446744073709551616 := ⟨x.toNat, by have := h.1; omega, by have := h.1; have := h.2; omega⟩
theorem body_enc {xs ys : List Int} {t : Nat} {f : Fm} (hf : FmOk f) (hd : checkDe f.d = 0) (h : xs.drop t = enc f.num.toNat ++ (enc f.base.toNat ++ (enc f.echo.toNat ++ (enc f.stamp.toNat ++ (bytesDe f.d ++ ys))))) :
    bodyFm xs (t, 0) = ((t + (enc f.num.toNat).length + (enc f.base.toNat).length + (enc f.echo.toNat).length + (enc f.stamp.toNat).length + (bytesDe f.d).length, 0), f) ∧ xs.drop (t + (enc f.num.toNat).length + (enc f.base.toNat).length + (enc f.echo.toNat).length + (enc f.stamp.toNat).length + (bytesDe f.d).length) = ys := by
  obtain ⟨a, ha, ha2⟩ := u64_nat hf.num
  obtain ⟨b, hb, hb2⟩ := u64_nat hf.base
  obtain ⟨c, hc, hc2⟩ := u64_nat hf.echo
  obtain ⟨e, he, he2⟩ := u64_nat hf.stamp
  obtain ⟨num, base, echo, stamp, d⟩ := f
  simp only at ha hb hc he hd h ⊢
  subst ha hb hc he
  simp only [Int.toNat_natCast] at h ⊢
  obtain ⟨h1, h2⟩ := num_enc h (by omega)
  obtain ⟨h3, h4⟩ := num_enc h2 (by omega)
  obtain ⟨h5, h6⟩ := num_enc h4 (by omega)
  obtain ⟨h7, h8⟩ := num_enc h6 (by omega)
  obtain ⟨h9, h10⟩ := takeDe_enc hd h8
  refine ⟨?_, h10⟩
  unfold bodyFm
  simp only [h1, h3, h5, h7, h9]
theorem body_told {f : Fm} (hf : FmOk f) (hd : checkDe f.d = 0) (ys : List Int) : bodyFm (bytesFm f ++ ys) (1, 0) = (((bytesFm f).length, 0), f) := by
  obtain ⟨h1, -⟩ := body_enc (xs := bytesFm f ++ ys) (ys := ys) (t := 1) hf hd (by unfold bytesFm; simp)
  rw [h1]
  refine Prod.ext (Prod.ext ?_ rfl) rfl
  unfold bytesFm
  simp only [List.length_cons, List.length_append]
  omega
theorem head_told (f : Fm) (ys : List Int) : (bytesFm f ++ ys).head? = some 70 := rfl
/-- What was told is parsed as it was. -/
theorem parseFm_enc {f : Fm} (hf : FmOk f) (h : checkFm f = 0) : parseFm (bytesFm f) = (f, 0) := by
  obtain ⟨h1, h2, h3⟩ := checkFm_zero h
  have hb := body_told hf h2 []
  rw [List.append_nil] at hb
  have he : endFm (bytesFm f) (bodyFm (bytesFm f) (1, 0)) = 0 := by
    rw [hb]
    unfold endFm
    have hz : dVal (bytesFm f) (bytesFm f).length 0 = 0 := by unfold dVal; rw [if_neg (by omega)]
    simp only [hz, true_and]
    rw [if_neg (by omega)]
  unfold parseFm
  rw [if_neg (by omega), if_pos (by have := head_told f []; rwa [List.append_nil] at this), if_pos he, hb]
/-- With one byte more behind they tell none. -/
theorem parseFm_more {f : Fm} (hf : FmOk f) (h : checkFm f = 0) (m : Int) (hl : (bytesFm f).length + 1 ≤ 65536) : parseFm (bytesFm f ++ [m]) = (zeroFm, 3) := by
  obtain ⟨h1, h2, h3⟩ := checkFm_zero h
  have hb := body_told hf h2 [m]
  have hlen : (bytesFm f ++ [m]).length = (bytesFm f).length + 1 := by simp
  have he : endFm (bytesFm f ++ [m]) (bodyFm (bytesFm f ++ [m]) (1, 0)) = 3 := by
    rw [hb]
    unfold endFm
    have hz : dVal (bytesFm f ++ [m]) (bytesFm f).length 0 = 3 := by unfold dVal; rw [if_pos ⟨rfl, by omega⟩]
    simp only [hz]
    rw [if_neg (by intro z; exact absurd z.1 (by decide))]
  unfold parseFm
  rw [if_neg (by omega), if_pos (head_told f [m]), if_neg (by rw [he]; decide), he]
theorem numD_u64 {xs : List Int} {s : Nat × Int} (hb : Byte xs) (h : (numD xs s).1.2 = 0) : U64 (numD xs s).2 := by
  obtain ⟨-, N, h1, h2, -⟩ := num_back hb h
  rw [h1]
  exact ⟨by omega, by omega⟩
/-- What was parsed is told by just these bytes. -/
theorem parseFm_back {xs : List Int} (hb : Byte xs) (h : (parseFm xs).2 = 0) : bytesFm (parseFm xs).1 = xs ∧ checkFm (parseFm xs).1 = 0 ∧ FmOk (parseFm xs).1 := by
  unfold parseFm at h ⊢
  by_cases q1 : 65536 < xs.length
  · rw [if_pos q1] at h; cases h
  · rw [if_neg q1] at h ⊢
    by_cases q2 : xs.head? = some 70
    · rw [if_pos q2] at h ⊢
      by_cases q3 : endFm xs (bodyFm xs (1, 0)) = 0
      · rw [if_pos q3]
        simp only
        have hd0 : dVal xs (bodyFm xs (1, 0)).1.1 (bodyFm xs (1, 0)).1.2 = 0 ∧ ¬ ((bodyFm xs (1, 0)).2.num ≤ (bodyFm xs (1, 0)).2.base) := by
          unfold endFm at q3
          split at q3
          · cases q3
          · rename_i z; exact ⟨q3, fun y => z ⟨q3, y⟩⟩
        have hE : (bodyFm xs (1, 0)).1.2 = 0 ∧ ¬ (bodyFm xs (1, 0)).1.1 < xs.length := by
          have := hd0.1
          unfold dVal at this
          split at this
          · cases this
          · rename_i z; exact ⟨this, fun y => z ⟨this, y⟩⟩
        obtain ⟨-, hnb⟩ := hd0
        obtain ⟨hE, hend⟩ := hE
        unfold bodyFm at hE hend hnb ⊢
        simp only at hE hend hnb ⊢
        obtain ⟨h1, h2, h3⟩ := takeDe_back hb hE
        obtain ⟨h4, S, h5, h6, h7⟩ := num_back hb h1
        obtain ⟨h8, C, h9, h10, h11⟩ := num_back hb h4
        obtain ⟨h12, B, h13, h14, h15⟩ := num_back hb h8
        obtain ⟨h16, A, h17, h18, h19⟩ := num_back hb h12
        have hx : xs = 70 :: xs.drop 1 := by
          cases xs with
          | nil => cases q2
          | cons a l => simp only [List.head?_cons, Option.some.injEq] at q2; rw [q2]; rfl
        have hbs : bytesFm ⟨(numD xs (1, 0)).2, (numD xs (numD xs (1, 0)).1).2, (numD xs (numD xs (numD xs (1, 0)).1).1).2, (numD xs (numD xs (numD xs (numD xs (1, 0)).1).1).1).2, (takeDe xs (numD xs (numD xs (numD xs (numD xs (1, 0)).1).1).1).1).2⟩ = xs := by
          unfold bytesFm
          simp only [h17, h13, h9, h5, Int.toNat_natCast]
          rw [show xs.drop (takeDe xs (numD xs (numD xs (numD xs (numD xs (1, 0)).1).1).1).1).1.1 = [] from List.drop_eq_nil_of_le (by omega), List.append_nil] at h3
          rw [← h3, ← h7, ← h11, ← h15]
          simp only at h19
          rw [← h19]
          exact hx.symm
        refine ⟨hbs, checkFm_of (by simp only; omega) h2 (by rw [hbs]; omega), ⟨?_, ?_, ?_, ?_⟩⟩
        · exact numD_u64 hb h12
        · exact numD_u64 hb h8
        · exact numD_u64 hb h4
        · exact numD_u64 hb h1
      · rw [if_neg q3] at h; exact absurd h q3
    · rw [if_neg q2] at h; cases h
theorem take_four_De {xs : List Int} {s : Nat × Int} (h : s.2 = 4) : (takeDe xs s).1.2 = 4 := by
  have hr : (rawD xs s).1.2 = 4 := dloop_four (up_four (up_four (up_four (up_four (up_four h))))) _
  unfold takeDe
  simp only [hr]
  rfl
theorem takeDe_cuts {xs : List Int} {s : Nat × Int} {k : Nat} (hk : s.1 ≤ k) (h0 : (takeDe xs s).1.2 = 0) : (takeDe xs s).1.1 ≤ k ∨ (takeDe (xs.take k) s).1.2 = 4 := by
  have hq : (rawD xs s).1.2 = 0 := by
    unfold takeDe at h0
    simp only at h0
    by_cases q : (rawD xs s).1.2 = 0
    · exact q
    · rw [if_neg q] at h0; exact absurd h0 q
  rcases raw_cuts hk hq with ⟨h1, -⟩ | h1
  · left; exact h1
  · right
    simp only at h1
    unfold takeDe
    simp only [h1]
    rfl
theorem body_cut {xs : List Int} {s : Nat × Int} {k : Nat} (hk : s.1 ≤ k) (h0 : (bodyFm xs s).1.2 = 0) (hz : ∀ t : Nat × Int, (takeDe xs t).1.2 = 0 → t.2 = 0) (hn : ∀ t : Nat × Int, (numD xs t).1.2 = 0 → t.2 = 0) :
    (bodyFm xs s).1.1 ≤ k ∨ (bodyFm (xs.take k) s).1.2 = 4 := by
  unfold bodyFm at h0 ⊢
  simp only at h0 ⊢
  have h4 := hz _ h0
  have h3 := hn _ h4
  have h2 := hn _ h3
  have h1 := hn _ h2
  rcases num_cuts hk h1 with ⟨a1, a2⟩ | a2
  · simp only at a1 a2
    rw [a2]
    rcases num_cuts a1 h2 with ⟨b1, b2⟩ | b2
    · simp only at b1 b2
      rw [b2]
      rcases num_cuts b1 h3 with ⟨c1, c2⟩ | c2
      · simp only at c1 c2
        rw [c2]
        rcases num_cuts c1 h4 with ⟨d1, d2⟩ | d2
        · simp only at d1 d2
          rw [d2]
          exact takeDe_cuts d1 h0
        · simp only at d2; exact .inr (take_four_De d2)
      · simp only at c2; exact .inr (take_four_De (num_stay c2))
    · simp only at b2; exact .inr (take_four_De (num_stay (num_stay b2)))
  · simp only at a2; exact .inr (take_four_De (num_stay (num_stay (num_stay a2))))
/-- A frame's bytes, cut short anywhere, tell none. -/
theorem parseFm_cut {f : Fm} (hf : FmOk f) (h : checkFm f = 0) (hby : Byte (bytesFm f)) {k : Nat} (hk : k < (bytesFm f).length) : parseFm ((bytesFm f).take k) = (zeroFm, if k = 0 then 12 else 4) := by
  obtain ⟨h1, h2, h3⟩ := checkFm_zero h
  have hlen : ((bytesFm f).take k).length = k := by rw [List.length_take]; omega
  unfold parseFm
  rw [if_neg (by omega)]
  cases k with
  | zero => rw [if_neg (by simp), if_pos rfl]
  | succ k =>
    have hh : ((bytesFm f).take (k + 1)).head? = some 70 := rfl
    have hb := body_told hf h2 []
    rw [List.append_nil] at hb
    have hb4 : (bodyFm ((bytesFm f).take (k + 1)) (1, 0)).1.2 = 4 := by
      rcases body_cut (xs := bytesFm f) (s := (1, 0)) (k := k + 1) (by simp only; omega) (by rw [hb]) (fun t ht => (takeDe_back hby ht).1) (fun t ht => (num_back hby ht).1) with q | q
      · rw [hb] at q; simp only at q; omega
      · exact q
    have he : endFm ((bytesFm f).take (k + 1)) (bodyFm ((bytesFm f).take (k + 1)) (1, 0)) = 4 := by
      unfold endFm
      have hz : ∀ t : Nat, dVal ((bytesFm f).take (k + 1)) t 4 = 4 := fun t => by unfold dVal; rw [if_neg (fun z => absurd z.1 (by decide))]
      rw [hb4, hz, if_neg (fun z => absurd z.1 (by decide))]
    rw [if_pos hh, if_neg (by rw [he]; decide), he, if_neg (by omega)]
end Go.Proofs.YtcbdokocnjoilaaGreatDoor
