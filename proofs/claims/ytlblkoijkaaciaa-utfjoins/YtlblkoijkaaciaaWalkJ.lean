/-
  The walk of the law UtfJoins.
-/
import Derived.Test.YtlblkoijkaaciaaKnown
import Derived.Lib.MinMax
namespace Go.Proofs.Ytlblkoijkaaciaa
open Go.ChangeShapes Go.WideShapes Go.ChangeAt Go.RowKit
set_option linter.unusedVariables false

theorem i32_bd' {a : Int} (h : (Lit.int .i32 a).wf = true) : -2147483648 ≤ a ∧ a ≤ 2147483647 := by
  simpa [Lit.wf, IntKind.min, IntKind.max, IntKind.signed, IntKind.bits] using h
theorem fixes_sc (xs : List Int) : ∀ r ∈ xs.map fix, isSc r = true := by
  intro r hr
  obtain ⟨x, _, rfl⟩ := List.mem_map.1 hr
  exact fix_sc x

set_option maxRecDepth 100000 in
set_option maxHeartbeats 400000 in
theorem utfJoins_walk (a : Option Addr) (len cap : Nat) (zs : List Int) (a1 : Option Addr) (len1 cap1 : Nat) (zs1 : List Int) (w : World)
    (hrow : IsRow .i32 w a len cap zs) (hrow1 : IsRow .u8 w a1 len1 cap1 zs1) :
    Calls Try.prog 6 #[.slice a len cap, .slice a1 len1 cap1] w fun e w' => e = .returned (.bool true) ∧ Below w.heap.size w w' := by
  obtain ⟨hz, hl, hn0, hmaxl⟩ := hrow.len
  obtain ⟨hz1, hl1, hn1, hmaxl1⟩ := hrow1.len
  obtain ⟨p, hp, hp20, hpl⟩ : ∃ p : Nat, min (len : Int) 20 = (p : Int) ∧ p ≤ 20 ∧ p ≤ len := ⟨min len 20, by omega, by omega, by omega⟩
  obtain ⟨q, hq, hq40, hql⟩ : ∃ q : Nat, min (len1 : Int) 40 = (q : Int) ∧ q ≤ 40 ∧ q ≤ len1 := ⟨min len1 40, by omega, by omega, by omega⟩
  have hi := hrow.ints.take p
  have hi1 := hrow1.ints.take q
  have hy : Byte (zs1.take q) := byte_of hrow1.wf q
  have hx : (zs.take p).length = p := by rw [List.length_take]; omega
  have hx1 : (zs1.take q).length = q := by rw [List.length_take]; omega
  have hmax := hmaxl
  have hmax1 := hmaxl1
  unfold maxLen at hmax hmax1
  clear hrow hrow1
  have HX := hide hx
  have HX1 := hide hx1
  have HN1 := hide hn1
  have hqcap : q ≤ cap1 := by omega
  clear hz hn0 hx hz1 hn1 hx1
  generalize zs.take p = xs at *
  generalize zs1.take q = ys at *
  have hlx : xs.length ≤ 20 := by rw [HX.out]; exact hp20
  have hly : ys.length ≤ 40 := by rw [HX1.out]; exact hq40
  have hel := encA_len xs
  have hrl := runes_len ys
  have hby := encA_byte xs
  have hr1' : Rn (xs.map fix) := rn_sc (fixes_sc xs)
  have hr2 : Rn (runes ys) := rn_runes ys hy
  have R1' : runes (encA xs) = xs.map fix := by
    have := runes_enc xs []
    rw [List.append_nil, runes_nil, List.append_nil] at this
    exact this
  have R2' := runes_enc xs ys
  have HML' : (xs.map fix).length = p := by rw [List.length_map]; exact HX.out
  obtain ⟨fs, hfs⟩ : ∃ fs, xs.map fix = fs := ⟨_, rfl⟩
  rw [hfs] at hr1' R1' R2' HML'
  clear hfs
  have hr1 := hr1'
  have HML := hide HML'
  have hml : fs.length ≤ 20 := by rw [HML']; exact hp20
  have hr3 : Rn (fs ++ runes ys) := fun x hx => by rcases List.mem_append.1 hx with h | h; exact hr1 x h; exact hr2 x h
  have R1 := hide R1'
  clear R1' HML' hr1'
  have V2' := vld_enc xs ys
  obtain ⟨E, hE⟩ : ∃ E, encA xs ++ ys = E := ⟨_, rfl⟩
  obtain ⟨G, hG⟩ : ∃ G, fs ++ runes ys = G := ⟨_, rfl⟩
  have hbE : Byte E := by rw [← hE]; exact (encA_byte xs).append hy
  have hlE : E.length ≤ 120 := by rw [← hE, List.length_append]; omega
  have hrG : Rn G := by rw [← hG]; exact hr3
  have hlG : G.length ≤ 100 := by rw [← hG, List.length_append]; omega
  have HE := hide hE
  have HG := hide hG
  have R2 : Hid (runes E = G) := by unfold Hid; rw [← hE, R2', hG]
  have V2 : Hid (vld E = vld ys) := by unfold Hid; rw [← hE, V2']
  clear R2' V2' hE hG
  have k1 : (0 : Int) ≤ (p : Int) := by omega
  have k2 : (p : Int) ≤ (cap : Int) := by omega
  have k3 : (0 : Int) ≤ (q : Int) := by omega
  have k4 : (q : Int) ≤ (cap1 : Int) := by omega
  go_enter Try.func6, Try.ntmps6
  go_wp2
  go_quiet (fail)
  have hb0 : Below w.heap.size w (w.drewN nq) := (Below.refl _ _).drewN _
  have hi0 := hi.drewN nq
  have hi10 := hi1.drewN nq
  clear hi hi1
  generalize w.drewN nq = w0 at *
  go_wp2_with fail
  refine (bytes_any a p cap xs w0 hi0 HX.out (by omega)).mono ?_
  rintro e w1 ⟨v1, rfl, hv1⟩
  obtain ⟨A1, c1, rfl, i1, hc1, hA1, hm1⟩ := hv1.form2
  have HA1 := hide hA1
  clear hA1
  have hi11 := hi10.below hv1.bel
  have hb01 := hb0.trans (hv1.bel.mono hb0.size)
  clear hi0 hi10 hb0 hv1
  go_wp2_with fail
  refine (runes_any A1 _ c1 (encA xs) w1 i1 rfl hc1 HA1.out hm1 (by omega) hby).mono ?_
  rintro e w2 ⟨v2, rfl, hv2⟩
  rw [R1.out] at hv2
  obtain ⟨A2, c2, rfl, i2, hc2, hA2, hm2⟩ := hv2.form2
  clear hA2
  go_wp2_with fail
  refine (ints_any A2 _ c2 fs w2 i2 rfl (by omega) hr1).mono ?_
  rintro e w3 ⟨v3, rfl, hv3⟩
  obtain ⟨A3, c3, rfl, i3, hc3, hA3, hm3⟩ := hv3.form2
  have HA3 := hide hA3
  clear hA3
  have hb02 := hb01.trans (hv2.bel.mono hb01.size)
  have hb03 := hb02.trans (hv3.bel.mono hb02.size)
  have i13 := (i1.below hv2.bel).below hv3.bel
  have hi13 := (hi11.below hv2.bel).below hv3.bel
  clear i1 i2 hi11 hb01 hb02 hv2 hv3 hc2 hm2
  go_wp2_with fail
  refine (runes_any a1 q cap1 ys w3 hi13 HX1.out hqcap HN1.out hmaxl1 (by omega) hy).mono ?_
  rintro e w4 ⟨v4, rfl, hv4⟩
  obtain ⟨A4, c4, rfl, i4, hc4, hA4, hm4⟩ := hv4.form2
  clear hA4
  go_wp2_with fail
  refine (ints_any A4 _ c4 (runes ys) w4 i4 rfl (by omega) hr2).mono ?_
  rintro e w5 ⟨v5, rfl, hv5⟩
  obtain ⟨A5, c5, rfl, i5, hc5, hA5, hm5⟩ := hv5.form2
  have HA5 := hide hA5
  clear hA5
  have hb04 := hb03.trans (hv4.bel.mono hb03.size)
  have hb05 := hb04.trans (hv5.bel.mono hb04.size)
  have i15 := (i13.below hv4.bel).below hv5.bel
  have i35 := (i3.below hv4.bel).below hv5.bel
  have hi15 := (hi13.below hv4.bel).below hv5.bel
  clear i13 i3 i4 hi13 hb03 hb04 hv4 hv5 hc4 hm4
  go_wp2_with fail
  refine (known_any _).mono ?_
  rintro e w6 ⟨rfl, hb6⟩
  have hb06 := hb05.trans (hb6.mono hb05.size)
  have i16 := i15.below hb6
  have i36 := i35.below hb6
  have i56 := i5.below hb6
  have hi16 := hi15.below hb6
  clear i15 i35 i5 hi15 hb05 hb6
  have ho := Own.empty w6 5 .u8
  have ia := i16.alloc (.cells #[] 5)
  have heq : ((fs.length : Int) == (p : Int)) = true := by rw [HML.out]; simp
  go_wp2_with (first | (at_builtin; refine wpList_cat elem23 rfl (.tmp 35) (.tmp 36) rfl rfl rfl ho ia rfl HA1.out (by simp; omega) (by omega) ?_; intro v7 w7 hown7; rw [List.nil_append] at hown7) | (at_builtin; refine wpList_cat elem23 rfl (.tmp 37) (.tmp 38) rfl rfl rfl hown7 (hi16.below hown7.bel) HX1.out HN1.out (by omega) (by omega) ?_; intro v8 w8 hown8))
  rw [HE.out] at hown8
  obtain ⟨A8, c8, rfl, i8, hc8, hA8, hm8⟩ := hown8.form2
  have HA8 := hide hA8
  clear hA8
  refine (runes_any A8 _ c8 E w8 i8 rfl hc8 HA8.out hm8 (by omega) hbE).mono ?_
  rintro e w9 ⟨v9, rfl, hv9⟩
  rw [R2.out] at hv9
  obtain ⟨A9, c9, rfl, i9, hc9, hA9, hm9⟩ := hv9.form2
  clear hA9
  have hb68 := hown8.bel
  have hb69 : Below w6.heap.size w6 w9 := hb68.trans (hv9.bel.mono hb68.size)
  have hb09 := hb06.trans (hb69.mono hb06.size)
  have i19 := i16.below hb69
  have i39 := i36.below hb69
  have i59 := i56.below hb69
  have hi19 := hi16.below hb69
  clear ho ia hown7 hown8 i8 hv9 i16 i36 i56 hi16 hb06 hb68 hb69 hc8 hm8 hc9 hm9
  have ho2 := Own.empty w9 3 .i64
  have ia2 := i39.alloc (.cells #[] 3)
  go_wp2_with (first | (at_builtin; refine wpList_cat elem27 rfl (.tmp 41) (.tmp 42) rfl rfl rfl ho2 ia2 rfl HA3.out (by simp; omega) (by omega) ?_; intro v10 w10 hown10; rw [List.nil_append] at hown10) | (at_builtin; refine wpList_cat elem27 rfl (.tmp 43) (.tmp 44) rfl rfl rfl hown10 (i59.below hown10.bel) rfl HA5.out (by omega) (by omega) ?_; intro v11 w11 hown11))
  rw [HG.out] at hown11
  obtain ⟨A11, c11, rfl, i11, hc11, hA11, hm11⟩ := hown11.form2
  clear hA11
  have hb911 := hown11.bel
  refine (same_yes A9 A11 _ c9 c11 G w11 (i9.below hb911) i11 rfl (by omega) hrG).mono ?_
  rintro e w12 ⟨rfl, hb12⟩
  have hb912 : Below w9.heap.size w9 w12 := hb911.trans (hb12.mono hb911.size)
  have hb012 := hb09.trans (hb912.mono hb09.size)
  have i112 := i19.below hb912
  have hi112 := hi19.below hb912
  clear ho2 ia2 hown10 hown11 i11 i9 i19 i39 i59 hi19 hb09 hb911 hb912 hb12 hc11 hm11
  have ho3 := Own.empty w12 5 .u8
  have ia3 := i112.alloc (.cells #[] 5)
  go_wp2_with (first | (at_builtin; refine wpList_cat elem23 rfl (.tmp 49) (.tmp 50) rfl rfl rfl ho3 ia3 rfl HA1.out (by simp; omega) (by omega) ?_; intro v13 w13 hown13; rw [List.nil_append] at hown13) | (at_builtin; refine wpList_cat elem23 rfl (.tmp 51) (.tmp 52) rfl rfl rfl hown13 (hi112.below hown13.bel) HX1.out HN1.out (by omega) (by omega) ?_; intro v14 w14 hown14))
  rw [HE.out] at hown14
  obtain ⟨A14, c14, rfl, i14, hc14, hA14, hm14⟩ := hown14.form2
  clear hA14
  refine (valid_any A14 _ c14 E w14 i14 rfl (by omega) hbE).mono ?_
  rintro e w15 ⟨rfl, hb15⟩
  rw [V2.out]
  have hb1214 := hown14.bel
  have hb1215 : Below w12.heap.size w12 w15 := hb1214.trans (hb15.mono hb1214.size)
  have hb015 := hb012.trans (hb1215.mono hb012.size)
  have hi115 := hi112.below hb1215
  clear ho3 ia3 hown13 hown14 i14 i112 hi112 hb012 hb1214 hb1215 hb15
  go_wp2_with fail
  refine (valid_any a1 q cap1 ys w15 hi115 HX1.out (by omega) hy).mono ?_
  rintro e w16 ⟨rfl, hb16⟩
  generalize vld ys = vb
  have hvv : (vb == vb) = true := by simp
  go_wp2
  go_ret
  exact ⟨rfl, hb015.trans (hb16.mono hb015.size)⟩
end Go.Proofs.Ytlblkoijkaaciaa
