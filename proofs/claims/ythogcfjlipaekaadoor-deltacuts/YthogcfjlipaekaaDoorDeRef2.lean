/-
  Contract: the bytes of a difference that may be told (the document's Bytes).
-/
import Derived.Test.YthogcfjlipaekaaDoorDeRef1
import Derived.Test.YthogcfjlipaekaaDoorB9
namespace Go.Proofs.YthogcfjlipaekaaDoor
set_option maxRecDepth 100000
open Go.ChangeShapes Go.WideShapes Go.ChangeAt Go.RowKit
set_option linter.unusedVariables false

theorem u64_same (x : Int) (h : 0 ≤ x) (h2 : x ≤ 1000000) : IntKind.u64.wrap x = x := by rw [IntKind.wrap_u64]; omega
set_option maxHeartbeats 4000000 in
theorem rdebytes_any (C : Nat) (te t : TypeId) (d : Df) (A : Option Addr) (n c : Nat) (w : World) (h : Sps C te t .i64 w A d.ss) (hC : C ≤ w.heap.size) (hn : d.ss.length = n) (ht : 5 ≠ t) (hd : checkDe d = 0) (hsz : (bytesSs d.ss).length ≤ 300000) :
    Calls Tryd.prog 13 #[.agg #[.int .i64 d.rows, .int .i64 d.cols, .int .i64 d.row, .int .i64 d.col, .slice A n c]] w (Made 5 .u8 w (bytesDe d)) := by
  have hhd := bytesDe_head d
  have hhl := headB_len d
  have hun : headB d = encAll [d.rows, d.cols, d.row, d.col, (d.ss.length : Int)] := rfl
  rw [hn] at hun
  have hfn := fine_of hd
  have hbd := check_bd hfn.1
  obtain ⟨hd0, hhd0⟩ : ∃ l, headB d = l := ⟨_, rfl⟩
  rw [hhd0] at hun hhl hhd
  obtain ⟨X, hX⟩ : ∃ X, bytesDe d = X := ⟨_, rfl⟩
  rw [hX] at hhd ⊢
  have hev := hfn.2.each
  clear hX hd hhd0 hfn
  obtain ⟨R, K, r0, l0, ss⟩ := d
  simp only at h hn hsz hhd hun hev ⊢
  obtain ⟨a0, a1, b0, b1, c0, c1, f0, f1, hm, heach⟩ := hbd
  simp only at a0 a1 b0 b1 c0 c1 f0 f1 hm heach
  rw [hn] at hm heach
  have HEA := hide heach
  clear heach
  obtain ⟨W0, hW0⟩ : ∃ W0, w.alloc (.cells #[.int .i64 R, .int .i64 K, .int .i64 r0, .int .i64 l0, .slice A n c] 29) = W0 := ⟨_, rfl⟩
  have HB0 : Hid (Below w.heap.size w W0) := by unfold Hid; rw [← hW0]; exact new1W _ _
  have HX0 : Hid (Whole W0 w.heap.size 29 [.int .i64 R, .int .i64 K, .int .i64 r0, .int .i64 l0, .slice A n c]) := by unfold Hid; rw [← hW0]; exact Whole.new w 29 [.int .i64 R, .int .i64 K, .int .i64 r0, .int .i64 l0, .slice A n c]
  obtain ⟨W1, hW1⟩ : ∃ W1, W0.alloc (.cells #[.int .u64 R, .int .u64 K, .int .u64 r0, .int .u64 l0, .int .u64 (n : Int)] 45) = W1 := ⟨_, rfl⟩
  have hb1 : Below W0.heap.size W0 W1 := by rw [← hW1]; exact new1W _ _
  have hi1 : Ints .u64 W1 (some ⟨W0.heap.size, 0, none⟩) [R, K, r0, l0, (n : Int)] := by rw [← hW1]; exact Ints.new .u64 W0 45 [R, K, r0, l0, (n : Int)]
  have KEY := hide (nu_all_any _ 5 5 [R, K, r0, l0, (n : Int)] W1 hi1 rfl (by omega) (by simp; omega))
  have HX1 := hide (HX0.out.later hb1)
  have HB1 := hide (HB0.out.trans (hb1.mono HB0.out.size))
  have w1 := u64_same R a0 (by omega)
  have w2 := u64_same K b0 (by omega)
  have w3 := u64_same r0 c0 (by omega)
  have w4 := u64_same l0 f0 (by omega)
  have w5 := u64_same (n : Int) (by omega) (by omega)
  have HW0 := hide hW0
  have HW1 := hide hW1
  have HA := hide h
  have HC := hide hC
  have HN := hide hn
  have HEV := hide hev
  have HSZ := hide hsz
  have HHD := hide hhd
  have HUN := hide hun
  clear hW0 hW1 hb1 hi1 h hC hn hev hsz hhd hun
  obtain ⟨d0, d1, d2, d3, d4, ld⟩ := cells5 HX0.out
  go_enter Tryd.func13, Tryd.ntmps13
  go_upto_region 1 with fail
  rw [HW0.out]
  go_wp2_with fail
  rw [HW1.out]
  refine KEY.out.mono ?_
  rw [← HUN.out]
  rintro e v2 ⟨x, rfl, ho⟩
  have HX2 := hide (HX1.out.later ho.bel)
  have HB2 := hide (HB1.out.trans (ho.bel.mono HB1.out.size))
  have HO2 : Hid (Own 5 .u8 w.heap.size v2 v2 x hd0) := (ho.from HB1.out HB1.out.size).now
  clear ho d0 d1 d2 d3 d4 ld w1 w2 w3 w4 w5
  go_wp2
  go_loopw [3, 4, 5] (fun v i _ wr => ∃ k : Nat, k ≤ n ∧ i = .int .i64 k ∧ Hid (Own 5 .u8 w.heap.size wr wr v (hd0 ++ bytesSs (ss.take k))) ∧ Hid (Whole wr w.heap.size 29 [.int .i64 R, .int .i64 K, .int .i64 r0, .int .i64 l0, .slice A n c]) ∧ Hid (Below w.heap.size w wr)) (fun _ i _ _ => n - (intOf i).toNat)
  case atStart => exact ⟨0, Nat.zero_le _, rfl, by unfold Hid; rw [List.take_zero, show bytesSs [] = [] from rfl, List.append_nil]; exact HO2.out, HX2, HB2⟩
  case round =>
    obtain ⟨k, hk, rfl, HOk, HXk, HBk⟩ := hrel
    obtain ⟨d0, d1, d2, d3, d4, ld⟩ := cells5 HXk.out
    by_cases hlt : k < n
    · have hks : k < ss.length := by rw [HN.out]; exact hlt
      obtain ⟨b, off, A1, c1', rfl, lb, x0, x1, x2, xi, hcap, hnone⟩ := (HA.out.below HBk.out HC.out).at (i := k) hks
      have hin := HEA.out k hlt
      have hfi := (HEV.out _ (mem_sAt ss k hks)).right
      have hnx := bytesSs_next ss k hks
      have hnl := bytesSs_take ss (k + 1)
      have hkl := bytesSs_take ss k
      rw [hnx] at hnl
      obtain ⟨x, hx⟩ : ∃ x, sAt ss k = x := ⟨_, rfl⟩
      rw [hx] at x0 x1 x2 xi hcap hin hfi hnx hnl
      obtain ⟨r, l, cs⟩ := x
      simp only at x0 x1 x2 xi hcap hfi hnx hnl
      obtain ⟨g0, g1, g2, g3, g4⟩ := hin
      simp only at g0 g1 g2 g3 g4
      obtain ⟨u, hu⟩ : ∃ u, cs.length = u := ⟨_, rfl⟩
      rw [hu] at x2 hcap g4
      have hsz := HSZ.out
      have HNX : Hid (hd0 ++ bytesSs (ss.take (k + 1)) = (hd0 ++ bytesSs (ss.take k)) ++ (encAll [r, l]) ++ bytesR cs) := by unfold Hid; rw [hnx]; simp only [List.append_assoc]
      obtain ⟨hk0, hhk0⟩ : ∃ l, hd0 ++ bytesSs (ss.take k) = l := ⟨_, rfl⟩
      rw [hhk0] at HOk HNX
      have hk0l : hk0.length ≤ 300100 := by rw [← hhk0, List.length_append]; omega
      have hrl : (bytesR cs).length ≤ 300000 := by simp only [List.length_append] at hnl; omega
      have hel := encAll_len [r, l]
      simp only [List.length_cons, List.length_nil] at hel
      clear hnx hnl hkl hx hks hhk0
      have w1 := u64_same r g0 (by omega)
      have w2 := u64_same l g2 (by omega)
      obtain ⟨A3, c3, hv3, -⟩ := HOk.out.form2
      obtain ⟨L3, hL3⟩ : ∃ L3, hk0.length = L3 := ⟨_, rfl⟩
      rw [hL3] at hv3 hk0l
      subst hv3
      have HL3 := hide hL3
      clear hL3
      obtain ⟨W4, hW4⟩ : ∃ W4, wr.alloc (.cells #[.int .i64 r, .int .i64 l, .slice A1 u c1'] 68) = W4 := ⟨_, rfl⟩
      have hb4 : Below wr.heap.size wr W4 := by rw [← hW4]; exact new1W _ _
      have HQ4 : Hid (Whole W4 wr.heap.size 68 [.int .i64 r, .int .i64 l, .slice A1 u c1']) := by unfold Hid; rw [← hW4]; exact Whole.new wr 68 [.int .i64 r, .int .i64 l, .slice A1 u c1']
      obtain ⟨W5, hW5⟩ : ∃ W5, W4.alloc (.cells #[.int .u64 r, .int .u64 l] 45) = W5 := ⟨_, rfl⟩
      have hb5 : Below W4.heap.size W4 W5 := by rw [← hW5]; exact new1W _ _
      have hi5 : Ints .u64 W5 (some ⟨W4.heap.size, 0, none⟩) [r, l] := by rw [← hW5]; exact Ints.new .u64 W4 45 [r, l]
      have KEY2 := hide (nu_all_any _ 2 2 [r, l] W5 hi5 rfl (by omega) (by simp; omega))
      have HB5 := hide (hb4.trans (hb5.mono hb4.size))
      have HQ5 := hide (HQ4.out.later hb5)
      have HXI := hide xi
      have HU := hide hu
      have HFI := hide hfi
      have HW4 := hide hW4
      have HW5 := hide hW5
      clear hb4 hb5 hi5 hW4 hW5 xi hu hfi
      go_upto_region 6 with fail
      rw [HW4.out]
      clear x0 x1 x2 lb d0 d1 d2 d3 d4 ld
      obtain ⟨x0, x1, x2, lx⟩ := cells3 HQ4.out
      go_wp2_with fail
      rw [HW5.out]
      refine KEY2.out.mono ?_
      rintro e w6 ⟨y, rfl, hy⟩
      obtain ⟨A6, c6, rfl, hi6, -, hz6, -⟩ := hy.form2
      obtain ⟨L6, hL6⟩ : ∃ L6, (encAll [r, l]).length = L6 := ⟨_, rfl⟩
      rw [hL6] at hel ⊢
      have HL6 := hide hL6
      have HB6 := hide (HB5.out.trans (hy.bel.mono HB5.out.size))
      have HO6 := hide (HOk.out.later HB6.out).now
      have HI6 := hide hi6
      have HZ6 := hide hz6
      have HQ6 := hide (HQ5.out.later hy.bel)
      clear hy hi6 hz6 hL6 x0 x1 x2 lx
      go_wp2_with (at_builtin; refine stopw ?_)
      unfold Hid
      refine wpList_catG elemBytes rfl _ _ rfl rfl rfl HO6.out HI6.out HL6.out HZ6.out (by rw [HL3.out]; omega) (by omega) ?_
      intro v7 w7 ho7 st7
      obtain ⟨A7, c7, hv7, -⟩ := ho7.form2
      obtain ⟨L7, hL7⟩ : ∃ L7, (hk0 ++ encAll [r, l]).length = L7 := ⟨_, rfl⟩
      have hL7l : L7 ≤ 300200 := by rw [← hL7, List.length_append, HL3.out, HL6.out]; omega
      rw [hL7] at hv7
      subst hv7
      have HL7 := hide hL7
      have HO7 := hide ho7.now
      have HB7 : Hid (Below w.heap.size wr w7) := (HB6.out.mono HBk.out.size).trans ho7.bel
      have HQ7 := hide (Others.of HO6.out st7 wr.heap.size 68 _ (by decide) HQ6.out)
      have HX7 := hide (Others.of HO6.out st7 w.heap.size 29 _ (by decide) (HXk.out.later HB6.out))
      have HST : Hid (Stays t wr w7) := (Stays.of_below HB6.out).trans (fun b cur hb => row_other HO6.out st7 b cur t ht hb)
      clear ho7 st7 hL7
      obtain ⟨x0, x1, x2, lx⟩ := cells3 HQ7.out
      have hC7 : Cels .i64 w7 A1 cs := (HXI.out.keep (fun b hb => HB7.out.block b (Nat.lt_of_lt_of_le hb HC.out)) HST.out).cels
      go_wp2_with fail
      refine (rrbytes_any A1 u c1' cs w7 hC7 HU.out (by omega) HFI.out).mono ?_
      rintro e w8 ⟨y, rfl, hy⟩
      obtain ⟨A8, c8, rfl, hi8, -, hz8, -⟩ := hy.form2
      obtain ⟨L8, hL8⟩ : ∃ L8, (bytesR cs).length = L8 := ⟨_, rfl⟩
      rw [hL8] at hrl ⊢
      have HL8 := hide hL8
      have HO8 := hide (HO7.out.later hy.bel).now
      have HX8 := hide (HX7.out.later hy.bel)
      have HB8 : Hid (Below w.heap.size wr w8) := HB7.out.trans (hy.bel.mono HO7.out.le)
      have HI8 := hide hi8
      have HZ8 := hide hz8
      clear hy hi8 hz8 hL8 x0 x1 x2 lx hC7
      go_wp2_with (at_builtin; refine stopw ?_)
      unfold Hid
      refine wpList_catG elemBytes rfl _ _ rfl rfl rfl HO8.out HI8.out HL8.out HZ8.out (by rw [HL7.out]; omega) (by omega) ?_
      intro v9 w9 ho9 st9
      obtain ⟨A9, c9, hv9, -⟩ := ho9.form2
      obtain ⟨L9, hL9⟩ : ∃ L9, (hk0 ++ encAll [r, l] ++ bytesR cs).length = L9 := ⟨_, rfl⟩
      rw [hL9] at hv9
      subst hv9
      have HO9 := hide ho9.now
      have HX9 := hide (Others.of HO8.out st9 w.heap.size 29 _ (by decide) HX8.out)
      have HB9 : Hid (Below w.heap.size w w9) := (HBk.out.trans HB8.out).trans ho9.bel
      clear ho9 st9 hL9
      go_wp2
      go_roundw
      case rel => exact ⟨k + 1, by omega, by go_num, by rw [HNX.out]; exact HO9, HX9, HB9⟩
      case measure => simp [intOf]; omega
    · obtain rfl : k = n := by omega
      have HF : Hid (hd0 ++ bytesSs (ss.take k) = X) := by unfold Hid; rw [← HN.out, List.take_length, HHD.out]
      rw [HF.out] at HOk
      obtain ⟨A7, c7, hf7, -⟩ := HOk.out.form2
      obtain ⟨L7, hL7⟩ : ∃ L7, X.length = L7 := ⟨_, rfl⟩
      rw [hL7] at hf7
      subst hf7
      clear hL7
      go_wp2
      go_ret
      exact ⟨_, rfl, ⟨HOk.out.own, HBk.out, HOk.out.le⟩⟩
end Go.Proofs.YthogcfjlipaekaaDoor
