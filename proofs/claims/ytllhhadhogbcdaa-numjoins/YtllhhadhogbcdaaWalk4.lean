/-
  The walk of the law NumJoins.
-/
import Derived.Test.YtllhhadhogbcdaaRow
import Derived.Deep.Cut
import Derived.Deep.CutBlock
namespace Go.Proofs.Ytllhhadhogbcdaa
open Go.ChangeShapes Go.WideShapes Go.ChangeAt Go.RowKit

theorem encF_mono (f : Nat) : ∀ a b, a ≤ b → (encF f a).length ≤ (encF f b).length := by
  induction f with
  | zero => intro a b _; simp [encF]
  | succ f ih =>
    intro a b h
    by_cases ha : a < 128
    · rw [encF_small _ _ ha]; have := encF_len (f + 1) b; simp; omega
    · rw [encF_big f a ha, encF_big f b (by omega)]
      have := ih (a / 128) (b / 128) (Nat.div_le_div_right h)
      simp; omega
theorem info27 : (Try.prog.info? 27).map (fun i => (i.zero, i.size, i.bytes)) = some (some (.int .u64 0), 1, 8) := by kernel_rfl
theorem elem22 : Elem Try.prog 22 27 .u64 8 := ⟨Try.underlying22, info27⟩

set_option maxRecDepth 100000 in
set_option maxHeartbeats 1000000 in
theorem numJoins_walk (a : Option Addr) (len cap : Nat) (zs : List Int) (a1 : Option Addr) (len1 cap1 : Nat) (zs1 : List Int) (n m cut : Int) (w : World)
    (hrow : IsRow .u64 w a len cap zs) (hrow1 : IsRow .u64 w a1 len1 cap1 zs1) (wn : (Lit.int .u64 n).wf = true) (wm : (Lit.int .u64 m).wf = true) (_wc : (Lit.int .i64 cut).wf = true) :
    Calls Try.prog 8 #[.slice a len cap, .slice a1 len1 cap1, .int .u64 n, .int .u64 m, .int .i64 cut] w fun e w' => e = .returned (.bool true) ∧ Below w.heap.size w w' := by
  obtain ⟨hz, hl, hn0, hmax⟩ := hrow.len
  obtain ⟨hz1, hl1, hn1, hmax1⟩ := hrow1.len
  obtain ⟨p, hp, hp20, hpl⟩ : ∃ p : Nat, min (len : Int) 20 = (p : Int) ∧ p ≤ 20 ∧ p ≤ len := ⟨min len 20, by omega, by omega, by omega⟩
  obtain ⟨q, hq, hq20, hql⟩ : ∃ q : Nat, min (len1 : Int) 20 = (q : Int) ∧ q ≤ 20 ∧ q ≤ len1 := ⟨min len1 20, by omega, by omega, by omega⟩
  have hi := hrow.ints.take p
  have hi1 := hrow1.ints.take q
  have hb := u64s_of hrow.wf p
  have hb1 := u64s_of hrow1.wf q
  have hx : (zs.take p).length = p := by rw [List.length_take]; omega
  have hx1 : (zs1.take q).length = q := by rw [List.length_take]; omega
  unfold maxLen at hmax hmax1
  clear hrow hrow1
  have HX := hide hx
  have HX1 := hide hx1
  have HN0 := hide hn0
  have HN1 := hide hn1
  clear hz hn0 hx hz1 hn1 hx1
  generalize zs.take p = xs at *
  generalize zs1.take q = ys at *
  have HB := hide hb
  have HB1 := hide hb1
  clear hb hb1
  obtain ⟨n1, n2⟩ := u64_bd wn
  obtain ⟨m1, m2⟩ := u64_bd wm
  clear wn wm
  have k1 : (0 : Int) ≤ (p : Int) := by omega
  have k2 : (p : Int) ≤ (cap : Int) := by omega
  have k3 : (0 : Int) ≤ (q : Int) := by omega
  have k4 : (q : Int) ≤ (cap1 : Int) := by omega
  go_enter Try.func8, Try.ntmps8
  go_wp2
  go_quiet (fail)
  have hb0 : Below w.heap.size w (w.drewN nq) := ⟨rfl, rfl, rfl, Nat.le_refl _, fun _ _ => rfl⟩
  have hi0 := hi.drewN nq
  have hi10 := hi1.drewN nq
  clear hi hi1
  generalize w.drewN nq = w0 at *
  go_wp2_with fail
  refine (bytes_any a p cap xs w0 hi0 HX.out (by omega) HB.out).mono ?_
  rintro e w1 ⟨v1, rfl, hv1⟩
  obtain ⟨A1, c1, rfl, i1, hc1, hA1⟩ := hv1.form
  have hi01 := hi0.below hv1.bel
  have hi11 := hi10.below hv1.bel
  have hb01 := hb0.trans (hv1.bel.mono hb0.size)
  clear hi0 hi10 hb0 hv1
  go_wp2_with fail
  refine (bytes_any a1 q cap1 ys w1 hi11 HX1.out (by omega) HB1.out).mono ?_
  rintro e w2 ⟨v2, rfl, hv2⟩
  obtain ⟨A2, c2, rfl, i2, hc2, hA2⟩ := hv2.form
  have hi02 := hi01.below hv2.bel
  have hi12 := hi11.below hv2.bel
  have i12 := i1.below hv2.bel
  have hb02 := hb01.trans (hv2.bel.mono hb01.size)
  clear hi01 hi11 hb01 hv2 i1
  have ho := Own.empty w2 27 .u64
  have hi03 := hi02.alloc (.cells #[] 27)
  have hx20 : xs.length ≤ 20 := by rw [HX.out]; exact hp20
  have hy20 : ys.length ≤ 20 := by rw [HX1.out]; exact hq20
  go_wp2_with (first | (at_builtin; refine wpList_cat elem22 rfl (.tmp 32) (.tmp 33) rfl rfl rfl ho hi03 HX.out HN0.out (by simp; omega) (by omega) ?_; intro v3 w3 hown3; rw [List.nil_append] at hown3) | (at_builtin; refine wpList_cat elem22 rfl (.tmp 34) (.tmp 35) rfl rfl rfl hown3 (hi12.below hown3.bel) HX1.out HN1.out (by omega) (by omega) ?_; intro v4 w4 hown4))
  obtain ⟨A4, c4, rfl, i4, hc4, hA4⟩ := hown4.form
  refine (bytes_any A4 _ c4 (xs ++ ys) w4 i4 rfl (by rw [List.length_append]; omega) (fun z hz => by rcases List.mem_append.1 hz with h | h; exact HB.out z h; exact HB1.out z h)).mono ?_
  rintro e w5 ⟨v5, rfl, hv5⟩
  obtain ⟨A5, c5, rfl, i5, hc5, hA5⟩ := hv5.form
  rw [encAll_append] at i5
  have hb24 := hown4.bel
  have hb25 : Below w2.heap.size w2 w5 := hb24.trans (hv5.bel.mono hb24.size)
  have hb05 : Below w.heap.size w w5 := hb02.trans (hb25.mono hb02.size)
  have i15 := i12.below hb25
  have i25 := i2.below hb25
  clear hown3 hown4 hv5 ho hi03 hi02 hi12 hb24 hb25 hb02 i12 i2 i4 hc4 hA4
  obtain ⟨N, rfl⟩ := Int.eq_ofNat_of_zero_le n1
  obtain ⟨M, rfl⟩ := Int.eq_ofNat_of_zero_le m1
  go_wp2_with fail
  refine (bytes_any _ 1 1 [(N : Int)] _ (Ints.new .u64 w5 27 [(N : Int)]) rfl (by omega) (by simp; omega)).mono ?_
  rintro e w6 ⟨v6, rfl, hv6⟩
  rw [encAll_one, Int.toNat_natCast] at hv6
  obtain ⟨A6, c6, rfl, i6, hc6, hA6⟩ := hv6.form
  have hb56 : Below w5.heap.size w5 w6 := ((Below.refl _ _).alloc (Nat.le_refl _) _).trans (hv6.bel.mono (by simp))
  have hb06 : Below w.heap.size w w6 := hb05.trans (hb56.mono hb05.size)
  have i16 := i15.below hb56
  have i26 := i25.below hb56
  have i56 := i5.below hb56
  clear hv6 hb56 hb05 i15 i25 i5
  have hN := enc_len N
  have hne : (((enc N).length : Int) == 0) = false := beq_eq_false_iff_ne.2 (by omega)
  have ho := Own.empty w6 5 .u8
  have i17 := i16.alloc (.cells #[] 5)
  have hlx := encAll_len xs
  have hly := encAll_len ys
  go_wp2_with (first | (at_builtin; refine wpList_cat elem23 rfl (.tmp 46) (.tmp 47) rfl rfl rfl ho i17 rfl hA1 (by simp; omega) (by omega) ?_; intro v7 w7 hown7; rw [List.nil_append] at hown7) | (at_builtin; refine wpList_cat elem23 rfl (.tmp 48) (.tmp 49) rfl rfl rfl hown7 (i26.below hown7.bel) rfl hA2 (by omega) (by omega) ?_; intro v8 w8 hown8))
  obtain ⟨A8, c8, hv8, i8, hc8, hA8⟩ := hown8.form
  rw [← encAll_append] at hv8
  subst hv8
  have hby : Byte (encAll xs ++ encAll ys) := (encAll_byte xs HB.out).append (encAll_byte ys HB1.out)
  have hb68 := hown8.bel
  refine (same_yes A5 A8 _ c5 c8 (encAll xs ++ encAll ys) w8 (i56.below hb68) i8 (by rw [encAll_append]) hby).mono ?_
  rintro e w9 ⟨rfl, rfl⟩
  have i68 := i6.below hb68
  have hb08 : Below w.heap.size w w8 := hb06.trans (hb68.mono hb06.size)
  clear hown7 hown8 i56 i8 i17 ho i6 hb06 hb68 i16 i26 hby hc8 hA8 hA1 hA2 hc1 hc2 hlx hly hA5
  obtain ⟨lo, hlo, hlo1⟩ : ∃ lo : Nat, min (N : Int) (M : Int) = (lo : Int) ∧ lo = min N M := ⟨min N M, by omega, rfl⟩
  obtain ⟨hi, hhi, hhi1⟩ : ∃ hi : Nat, max (N : Int) (M : Int) = (hi : Int) ∧ hi = max N M := ⟨max N M, by omega, rfl⟩
  have hmono := encF_mono 9 lo hi (by omega)
  have hlo2 : lo < 18446744073709551616 := by omega
  have hhi2 : hi < 18446744073709551616 := by omega
  clear hlo1 hhi1
  go_wp2_with fail
  refine (size_any lo w8 hlo2).mono ?_
  rintro e w9 ⟨rfl, rfl⟩
  go_wp2_with fail
  refine (size_any hi w8 hhi2).mono ?_
  rintro e w9 ⟨rfl, rfl⟩
  have hgt : decide ((enc hi).length < (enc lo).length) = false := by simp only [decide_eq_false_iff_not]; unfold enc; omega
  clear hmono hlo2 hhi2 hlo hhi m2 m1 n1 k1 k2 k3 k4 hp hq hmax hmax1 HB HB1 HX HX1 HN0 HN1 hl hl1 hpl hql
  go_upto_region 7 with (fail)
  clear hgt hne
  obtain ⟨C, hC⟩ : ∃ C : Int, C = IntKind.u64.wrap cut := ⟨_, rfl⟩
  have hC0 : 0 ≤ C := by rw [hC, IntKind.wrap_u64]; omega
  have hC1 : C < 18446744073709551616 := by rw [hC, IntKind.wrap_u64]; omega
  have hC' := hC.symm
  clear hC
  obtain ⟨R, hR, hRL⟩ : ∃ R : Nat, C.tmod ((enc N).length : Int) = (R : Int) ∧ R < (enc N).length := by
    refine ⟨(C.tmod ((enc N).length : Int)).toNat, ?_, ?_⟩
    · have := Int.tmod_nonneg ((enc N).length : Int) hC0; omega
    · have h1 := Int.tmod_lt_of_pos C (show (0 : Int) < ((enc N).length : Int) by omega); have := Int.tmod_nonneg ((enc N).length : Int) hC0; omega
  have HR := hide hR
  clear hR hC1
  go_wp2_with (with_reducible refine wpList_val (o := ⟨some 72, _, _, _, _, _⟩) rfl (v := .int .u64 (R : Int)) ?_ ?_)
  · exact exec_binop rfl rfl rfl rfl (run_rem_nat (P := Try.prog) w8 27 .u64 C (enc N).length R (by omega) HR.out)
  · refine (read_any A6 R c6 ((enc N).take R) w8 (i68.take R) (by rw [List.length_take]; omega) (by omega) (fun x hx => enc_byte N (by omega) x (List.mem_of_mem_take hx))).mono ?_
    rintro e w9 ⟨rfl, rfl⟩
    rw [rd_of_cut N R (by omega) hRL]
    go_wp2_with fail
    refine (known_any _).mono ?_
    rintro e w9 ⟨rfl, hb9⟩
    go_wp2
    go_ret
    exact ⟨rfl, hb08.trans (hb9.mono hb08.size)⟩
end Go.Proofs.Ytllhhadhogbcdaa
