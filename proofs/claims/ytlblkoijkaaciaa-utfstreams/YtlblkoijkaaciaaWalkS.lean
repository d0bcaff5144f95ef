/-
  The walk of the law UtfStreams.
-/
import Derived.Test.YtlblkoijkaaciaaStrm2
import Derived.Lib.MinMax
namespace Go.Proofs.Ytlblkoijkaaciaa
open Go.ChangeShapes Go.WideShapes Go.ChangeAt Go.RowKit
set_option linter.unusedVariables false

/-- In a world behind w: a row of scalars (its blocks above g), a stream in block g, all else as it was. -/
structure St (w : World) (g : Nat) (wr : World) (v : Value) (out h : List Int) : Prop where
  own : Own 21 .i32 (g + 1) wr wr v out
  strm : Strm wr g h
  bel : Below g w wr
section
variable {w wr w1 : World} {g : Nat} {v : Value} {out h : List Int}
theorem St.later (s : St w g wr v out h) (hb : Below wr.heap.size wr w1) : St w g w1 v out h :=
  ⟨(s.own.later hb).now, s.strm.later hb, s.bel.trans (hb.mono (Nat.le_of_lt s.strm.lt))⟩
theorem St.fed {h' : List Int} (s : St w g wr v out h) (hf : Fr wr.heap.size g wr w1) (hs : Strm w1 g h') : St w g w1 v out h' :=
  ⟨s.own.keep (fun i hi hlt => hf.block i hlt (by omega)) hf.size, hs, s.bel.trans (hf.below (Nat.le_of_lt s.strm.lt) (Nat.le_refl _))⟩
theorem St.cat {v' : Value} {out' : List Int} (s : St w g wr v out h) (ho : Own 21 .i32 (g + 1) wr w1 v' out') : St w g w1 v' out' h :=
  ⟨ho.now, s.strm.below ho.bel (Nat.lt_succ_self _), s.bel.trans (ho.bel.mono (Nat.le_succ _))⟩
theorem St.ints {k : IntKind} {A : Option Addr} {zs : List Int} (s : St w g wr v out h) (hg : g = w.heap.size) (hi : Ints k w A zs) : Ints k wr A zs := by subst hg; exact hi.below s.bel
end

theorem strm_new (w : World) : Strm (w.alloc (.cells #[.int .u8 0, .int .u8 0, .int .u8 0, .int .u8 0, .int .i64 0] 43)) w.heap.size [] :=
  ⟨[0, 0, 0, 0], rfl, Whole.new w 43 [.int .u8 0, .int .u8 0, .int .u8 0, .int .u8 0, .int .i64 0], rfl, by simp⟩
theorem i64_bd {a : Int} (h : (Lit.int .i64 a).wf = true) : -9223372036854775808 ≤ a ∧ a ≤ 9223372036854775807 := by
  simpa [Lit.wf, IntKind.min, IntKind.max, IntKind.signed, IntKind.bits] using h

/-- What holds at the head of each round. -/
def SRel (w : World) (xs : List Int) (n : Nat) (o r i : Value) (wr : World) : Prop :=
  ∃ (k j c2 : Nat) (A2 : Option Addr), i = .int .i64 k ∧ k ≤ 20 ∧ j ≤ n ∧ r = .slice A2 (n - j) c2 ∧ Ints .u8 w A2 (xs.drop j) ∧ n - j ≤ c2 ∧ c2 ≤ 9223372036854775807 ∧ (A2 = none → c2 = 0) ∧
    St w w.heap.size wr o (cut (xs.take j)).1 (cut (xs.take j)).2

theorem apart {w : World} {A : Option Addr} {zs : List Int} {n : Nat} (hi : Ints .u8 w A zs) (hn : zs.length = n) : ∀ ad, A = some ad → 0 < n → ad.block ≠ w.heap.size := by
  intro ad hA h0
  obtain ⟨b, off, e, _, hb⟩ := hi.at (i := 0) (by omega)
  rw [hA] at e
  cases e
  simp; omega

set_option maxRecDepth 100000 in
set_option maxHeartbeats 2000000 in
theorem utfStreams_walk (a : Option Addr) (len cap : Nat) (zs : List Int) (a1 : Option Addr) (len1 cap1 : Nat) (zs1 : List Int) (w : World)
    (hrow : IsRow .u8 w a len cap zs) (hrow1 : IsRow .i64 w a1 len1 cap1 zs1) :
    Calls Try.prog 5 #[.slice a len cap, .slice a1 len1 cap1] w fun e w' => e = .returned (.bool true) ∧ Below w.heap.size w w' := by
  obtain ⟨hz, hl, hn0, hmaxl⟩ := hrow.len
  obtain ⟨hz1, hl1, hn1, hmaxl1⟩ := hrow1.len
  obtain ⟨n, hn, hn60, hnl⟩ : ∃ n : Nat, min (len : Int) 60 = (n : Int) ∧ n ≤ 60 ∧ n ≤ len := ⟨min len 60, by omega, by omega, by omega⟩
  have hi := hrow.ints.take n
  have hi1 := hrow1.ints
  have hwf1 := hrow1.wf
  have hy : Byte (zs.take n) := byte_of hrow.wf n
  have hx : (zs.take n).length = n := by rw [List.length_take]; omega
  have hmax := hmaxl
  have hmax1 := hmaxl1
  unfold maxLen at hmax hmax1
  clear hrow hrow1
  have HX := hide hx
  have HN0 := hide hn0
  have HZ1 := hide hz1
  have HWF := hide hwf1
  have hncap : n ≤ cap := by omega
  clear hz hn0 hx hz1 hn1 hwf1
  generalize zs.take n = xs at *
  have n0 : (0 : Int) ≤ (n : Int) := by omega
  have n1 : (n : Int) ≤ (cap : Int) := by omega
  go_enter Try.func5, Try.ntmps5
  go_wp2
  go_loopw [6, 7, 8, 9, 10, 11] (fun o r i _ _ _ wr => SRel w xs n o r i wr) (fun _ _ i _ _ _ _ => 20 - (intOf i).toNat)
  case atStart =>
    refine ⟨0, 0, cap, a, rfl, by omega, Nat.zero_le _, rfl, hi, by omega, by omega, HN0.out, ?_⟩
    rw [List.take_zero, cut_nil]
    exact ⟨Own.start (by simp), strm_new w, (Below.refl _ _).alloc (Nat.le_refl _) _⟩
  case round =>
    obtain ⟨k, j, c2, A2, rfl, hk, hj, rfl, hi2, hc2, hc2m, hA2, hst⟩ := hrel
    have HA2 := hide hA2
    clear hA2
    obtain ⟨M, hM⟩ : ∃ M, n - j = M := ⟨_, rfl⟩
    rw [hM] at hc2 ⊢
    have hMn : M ≤ 60 := by omega
    have hjM : j + M = n := by omega
    have HDL : Hid ((xs.drop j).length = M) := by unfold Hid; rw [List.length_drop, HX.out]; exact hM
    have HJM := hide hjM
    clear hM hjM
    by_cases h1 : k < len1
    · by_cases h2 : k < 20
      · have h2' : (k : Int) < 20 := by omega
        obtain ⟨b, off, rfl, hc, hb0⟩ := hi1.at (i := k) (by rw [HZ1.out]; omega)
        obtain ⟨cv, hcv⟩ : ∃ cv, zs1.getD k 0 = cv := ⟨_, rfl⟩
        rw [hcv, ← hst.bel.cell (p := ⟨b, off + k, none⟩) hb0] at hc
        have hcb : -9223372036854775808 ≤ cv ∧ cv ≤ 9223372036854775807 := by
          refine i64_bd (HWF.out cv ?_)
          rw [← hcv, List.getD_eq_getElem?_getD, List.getElem?_eq_getElem (by rw [HZ1.out]; omega)]
          exact List.getElem_mem _
        obtain ⟨hcb1, hcb2⟩ := hcb
        clear hcv
        obtain ⟨C, hC⟩ : ∃ C : Int, C = IntKind.u64.wrap cv := ⟨_, rfl⟩
        have hC0 : 0 ≤ C := by rw [hC, IntKind.wrap_u64]; omega
        have hC' := hC.symm
        clear hC
        obtain ⟨R, hR, hRL⟩ : ∃ R : Nat, C.tmod ((M + 1 : Nat) : Int) = (R : Int) ∧ R ≤ M := by
          refine ⟨(C.tmod ((M + 1 : Nat) : Int)).toNat, ?_, ?_⟩
          · have := Int.tmod_nonneg ((M + 1 : Nat) : Int) hC0; omega
          · have h1 := Int.tmod_lt_of_pos C (show (0 : Int) < ((M + 1 : Nat) : Int) by omega); have := Int.tmod_nonneg ((M + 1 : Nat) : Int) hC0; omega
        have HR := hide hR
        clear hR hcb1 hcb2
        go_wp2_with (with_reducible refine wpList_val (o := ⟨some 38, _, _, _, _, _⟩) rfl (v := .int .u64 (R : Int)) ?_ ?_)
        · exact exec_binop (v2 := .int .u64 ((M + 1 : Nat) : Int)) rfl rfl rfl rfl (run_rem_nat (P := Try.prog) wr 44 .u64 C (M + 1) R (by omega) HR.out)
        · obtain ⟨ac, hh, hcj⟩ : ∃ ac hh, cut (xs.take j) = (ac, hh) := ⟨_, _, rfl⟩
          rw [hcj] at hst
          simp only at hst
          have hbj : Byte (xs.take j) := hy.take j
          have hh0 : (first hh).2 = 0 := by have := cut_rest (xs.take j); rw [hcj] at this; exact this
          have hhb : Byte hh := by have := cut_byte _ hbj; rw [hcj] at this; exact this
          obtain ⟨nw, h2, hnw⟩ : ∃ nw h2, cut (hh ++ (xs.drop j).take R) = (nw, h2) := ⟨_, _, rfl⟩
          have HT : Hid (xs.take (j + R) = xs.take j ++ (xs.drop j).take R) := List.take_add
          have hcjr : cut (xs.take (j + R)) = (ac ++ nw, h2) := by
            have := cut_append' (xs.take j) ((xs.drop j).take R)
            rw [hcj] at this
            simp only at this
            rw [HT.out, this, hnw]
          have hl2 : (ac ++ nw).length ≤ j + R := by
            have := cut_len (xs.take (j + R))
            rw [hcjr, List.length_take] at this
            simp only at this; omega
          have hh3 : h2.length ≤ 3 := by
            have := first_held_len _ (cut_rest (xs.take (j + R)))
            rw [hcjr] at this; exact this
          have hrn : Rn (ac ++ nw) := by
            have := rn_sc (cut_sc (xs.take (j + R)) (hy.take _))
            rw [hcjr] at this; exact this
          have hb2 : Byte h2 := by
            have := cut_byte (xs.take (j + R)) (hy.take _)
            rw [hcjr] at this; exact this
          have HNW := hide hnw
          have HCJR := hide hcjr
          have hjR : j + R ≤ 60 := by have := HJM.out; omega
          have hjRc : j + R ≤ cap := by have := HJM.out; omega
          have hla : ac.length + nw.length ≤ 60 := by rw [List.length_append] at hl2; omega
          clear hcj hnw hcjr hbj
          have hBL : ((xs.drop j).take R).length = R := by rw [List.length_take, HDL.out]; omega
          have hi2r := hi2.take R
          refine (feed_any w.heap.size hh ((xs.drop j).take R) A2 R c2 wr hst.strm hh0 hhb ((hy.drop j).take R) (hst.ints rfl hi2r) hBL (by omega) (apart hi2r hBL)).mono ?_
          rintro e w1 ⟨v1, rfl, ho1, hs1, hf1⟩
          rw [HNW.out] at ho1 hs1
          simp only at ho1 hs1
          have st1 := hst.fed hf1 hs1
          obtain ⟨A4, c4, rfl, i4, _, hA4, _⟩ := ho1.form2
          have HA4 := hide hA4
          obtain ⟨A3, hI, hI2, hI3⟩ : ∃ A3, (if c2 = R then A2 else Option.map (fun x => x.add R) A2) = A3 ∧ Ints .u8 w A3 (xs.drop (j + R)) ∧ (A3 = none → c2 - R = 0) := ⟨_, rfl, by
            have := hi2.cut R c2 (by rw [HDL.out]; exact hc2)
            rw [List.drop_drop] at this; exact this, cut_nil' HA2.out⟩
          have HI := hide hI
          have HI3 := hide hI3
          clear hA4 hI hI3 hst hf1 hs1 ho1 hBL hi2r hC' hC0 hc
          have r0 : (0 : Int) ≤ (R : Int) := by omega
          have r1 : (R : Int) ≤ (M : Int) := by omega
          have hown1 := st1.own
          obtain ⟨M3, hM3⟩ : ∃ M3, M - R = M3 := ⟨_, rfl⟩
          have s1 : (0 : Int) ≤ (n : Int) - (M3 : Int) := by have := HJM.out; omega
          have s2 : (n : Int) - (M3 : Int) ≤ (cap : Int) := by omega
          have HM3 := hide hM3
          clear hM3
          go_wp2_with (first | (at_builtin; refine wpList_cat elem22 rfl (.tmp 40) (.tmp 44) rfl rfl rfl hown1 i4 rfl HA4.out (by omega) (by omega) ?_; intro v2 w2 hown2) | (with_reducible refine wpList_val (o := ⟨some 48, _, _, _, _, _⟩) rfl (v := .slice A3 M3 (c2 - R)) ?_ ?_))
          · rw [← HI.out, ← HM3.out]
            go_simp
          · have st2 := st1.cat hown2
            have hTL : (xs.take (j + R)).length = n - M3 := by
              rw [List.length_take, HX.out]
              have := HJM.out
              have := HM3.out
              omega
            refine (cut_any a (n - M3) cap (xs.take (j + R)) w2 ?_ hTL (by omega) HN0.out hmaxl (by omega) (hy.take _)).mono ?_
            · have := (st2.ints rfl hi).take (j + R)
              exact this
            rintro e w3 ⟨v3, A5, n5, c5, rfl, ho5, i5, hn5, _, _⟩
            rw [HCJR.out] at ho5 i5 hn5
            simp only at ho5 i5 hn5
            have HN5 := hide hn5
            have st3 := st2.later ho5.bel
            obtain ⟨A6, c6, rfl, i6, _, _, _⟩ := ho5.form2
            obtain ⟨A7, c7, hv7, i7, _, _, _⟩ := st3.own.form2
            clear hn5 hTL st1 st2 hown1 hown2 i4 ho5
            obtain ⟨G, hG⟩ : ∃ G, ac ++ nw = G := ⟨_, rfl⟩
            rw [hG] at st3 hl2 hrn i6 i7
            have HG := hide hG
            rw [hG] at hv7
            rw [hG]
            clear hG
            subst hv7
            go_wp2_with fail
            refine (same_yes A7 A6 _ c7 c6 G w3 i7 i6 rfl (by omega) hrn).mono ?_
            rintro e w4 ⟨rfl, hb4⟩
            have st4 := st3.later hb4
            have i54 := i5.below hb4
            clear st3 i5 i6 i7
            go_wp2_with fail
            refine (held_any w.heap.size h2 w4 st4.strm).mono ?_
            rintro e w5 ⟨v5, rfl, ho5⟩
            obtain ⟨A8, c8, rfl, i8, _, _, _⟩ := ho5.form2
            have st5 := st4.later ho5.bel
            have i55 := i54.below ho5.bel
            clear st4 i54 hb4
            have hh3' : h2.length ≤ 3 := hh3
            rw [HN5.out] at hh3'
            rw [HN5.out]
            go_wp2_with fail
            refine (bsame_yes A8 A5 n5 c8 c5 h2 w5 i8 i55 HN5.out hb2).mono ?_
            rintro e w6 ⟨rfl, rfl⟩
            have hgt : decide (3 < (n5 : Int)) = false := by simp; omega
            go_wp2
            go_roundw
            case rel =>
              refine ⟨k + 1, j + R, c2 - R, A3, by go_num, by omega, by have := HJM.out; omega, ?_, hI2, ?_, by omega, HI3.out, ?_⟩
              · have := HJM.out
                have := HM3.out
                rw [show n - (j + R) = M3 by omega]
              · have := HJM.out
                omega
              · rw [HCJR.out, HG.out]; exact st5
            case measure => simp [intOf]; omega
      · have h2' : decide ((k : Int) < 20) = false := by simp; omega
        obtain ⟨ac, hh, hcj⟩ : ∃ ac hh, cut (xs.take j) = (ac, hh) := ⟨_, _, rfl⟩
        rw [hcj] at hst
        simp only at hst
        have hbj : Byte (xs.take j) := hy.take j
        have hh0 : (first hh).2 = 0 := by have := cut_rest (xs.take j); rw [hcj] at this; exact this
        have hhb : Byte hh := by have := cut_byte _ hbj; rw [hcj] at this; exact this
        obtain ⟨nw, h2, hnw⟩ : ∃ nw h2, cut (hh ++ xs.drop j) = (nw, h2) := ⟨_, _, rfl⟩
        have hcx : cut xs = (ac ++ nw, h2) := by
          have := cut_append' (xs.take j) (xs.drop j)
          rw [hcj] at this
          simp only at this
          rw [List.take_append_drop] at this
          rw [this, hnw]
        have HRU : Hid (runes xs = ac ++ nw ++ flushed h2) := by unfold Hid runes flushed; rw [hcx]
        have hrl := runes_len xs
        rw [HX.out] at hrl
        have hrn := rn_runes xs hy
        have hla : ac.length + nw.length ≤ 60 := by
          have := cut_len xs
          rw [hcx, HX.out] at this
          simp only [List.length_append] at this; omega
        have HNW := hide hnw
        clear hcj hnw hcx hbj
        have hfl : (flushed h2).length ≤ 1 := by unfold flushed; split <;> simp
        go_wp2_with fail
        refine (feed_any w.heap.size hh (xs.drop j) A2 M c2 wr hst.strm hh0 hhb (hy.drop j) (hst.ints rfl hi2) HDL.out (by omega) (apart hi2 HDL.out)).mono ?_
        rintro e w1 ⟨v1, rfl, ho1, hs1, hf1⟩
        rw [HNW.out] at ho1 hs1
        simp only at ho1 hs1
        have st1 := hst.fed hf1 hs1
        obtain ⟨A4, c4, rfl, i4, _, hA4, _⟩ := ho1.form2
        have HA4 := hide hA4
        have hown1 := st1.own
        clear hA4 hst hf1 hs1 ho1
        go_wp2_with (at_builtin; refine wpList_cat elem22 rfl (.tmp 75) (.tmp 77) rfl rfl rfl hown1 i4 rfl HA4.out (by omega) (by omega) ?_; intro v2 w2 hown2)
        have st2 := st1.cat hown2
        refine (flush_any w.heap.size h2 w2 st2.strm).mono ?_
        rintro e w3 ⟨v3, rfl, ho3, hs3, hf3⟩
        have st3 := st2.fed hf3 hs3
        obtain ⟨A5, c5, rfl, i5, _, hA5, _⟩ := ho3.form2
        have HA5 := hide hA5
        have hown3 := st3.own
        clear hA5 st1 st2 hown1 hown2 i4 ho3 hs3 hf3
        go_wp2_with (at_builtin; refine wpList_cat elem22 rfl (.tmp 79) (.tmp 80) rfl rfl rfl hown3 i5 rfl HA5.out (by rw [List.length_append]; omega) (by omega) ?_; intro v4 w4 hown4)
        have st4 := st3.cat hown4
        rw [← HRU.out] at st4
        clear hown3 hown4 st3 i5
        refine (known_any _).mono ?_
        rintro e w5 ⟨rfl, hb5⟩
        have st5 := st4.later hb5
        clear st4 hb5
        go_wp2_with fail
        refine (rrunes_any a n cap xs w5 (st5.ints rfl hi) HX.out hncap HN0.out hmaxl (by omega) hy).mono ?_
        rintro e w6 ⟨v6, rfl, ho6⟩
        have st6 := st5.later ho6.bel
        obtain ⟨A6, c6, rfl, i6, _, _, _⟩ := ho6.form2
        obtain ⟨A7, c7, hv7, i7, _, _, _⟩ := st6.own.form2
        subst hv7
        clear st5 ho6
        go_wp2_with fail
        refine (same_yes A7 A6 _ c7 c6 (runes xs) w6 i7 i6 rfl (by omega) hrn).mono ?_
        rintro e w7 ⟨rfl, hb7⟩
        have st7 := st6.later hb7
        clear st6 i6 i7 hb7
        go_wp2_with fail
        refine (held_any w.heap.size [] w7 st7.strm).mono ?_
        rintro e w8 ⟨v8, rfl, ho8⟩
        have st8 := st7.later ho8.bel
        obtain ⟨A8, c8, rfl, i8, _, _, _⟩ := ho8.form2
        clear st7 i8 ho8
        go_wp2_with fail
        refine (flush_any w.heap.size [] w8 st8.strm).mono ?_
        rintro e w9 ⟨v9, rfl, ho9, hs9, hf9⟩
        have st9 := st8.fed hf9 hs9
        rw [show flushed [] = [] from rfl] at ho9
        obtain ⟨A9, c9, rfl, i9, _, _, _⟩ := ho9.form2
        clear st8 ho9 i9 hs9 hf9
        go_wp2_with fail
        refine (feedNil_any _ w9).mono ?_
        rintro e w10 ⟨rfl, rfl⟩
        go_wp2_with fail
        refine (heldNil_any w9).mono ?_
        rintro e w10 ⟨rfl, rfl⟩
        go_wp2_with fail
        refine (flushNil_any w9).mono ?_
        rintro e w10 ⟨rfl, rfl⟩
        go_wp2
        go_ret
        exact ⟨rfl, st9.bel⟩
    · have h1' : decide (k < len1) = false := by simp; omega
      obtain ⟨ac, hh, hcj⟩ : ∃ ac hh, cut (xs.take j) = (ac, hh) := ⟨_, _, rfl⟩
      rw [hcj] at hst
      simp only at hst
      have hbj : Byte (xs.take j) := hy.take j
      have hh0 : (first hh).2 = 0 := by have := cut_rest (xs.take j); rw [hcj] at this; exact this
      have hhb : Byte hh := by have := cut_byte _ hbj; rw [hcj] at this; exact this
      obtain ⟨nw, h2, hnw⟩ : ∃ nw h2, cut (hh ++ xs.drop j) = (nw, h2) := ⟨_, _, rfl⟩
      have hcx : cut xs = (ac ++ nw, h2) := by
        have := cut_append' (xs.take j) (xs.drop j)
        rw [hcj] at this
        simp only at this
        rw [List.take_append_drop] at this
        rw [this, hnw]
      have HRU : Hid (runes xs = ac ++ nw ++ flushed h2) := by unfold Hid runes flushed; rw [hcx]
      have hrl := runes_len xs
      rw [HX.out] at hrl
      have hrn := rn_runes xs hy
      have hla : ac.length + nw.length ≤ 60 := by
        have := cut_len xs
        rw [hcx, HX.out] at this
        simp only [List.length_append] at this; omega
      have HNW := hide hnw
      clear hcj hnw hcx hbj
      have hfl : (flushed h2).length ≤ 1 := by unfold flushed; split <;> simp
      go_wp2_with fail
      refine (feed_any w.heap.size hh (xs.drop j) A2 M c2 wr hst.strm hh0 hhb (hy.drop j) (hst.ints rfl hi2) HDL.out (by omega) (apart hi2 HDL.out)).mono ?_
      rintro e w1 ⟨v1, rfl, ho1, hs1, hf1⟩
      rw [HNW.out] at ho1 hs1
      simp only at ho1 hs1
      have st1 := hst.fed hf1 hs1
      obtain ⟨A4, c4, rfl, i4, _, hA4, _⟩ := ho1.form2
      have HA4 := hide hA4
      have hown1 := st1.own
      clear hA4 hst hf1 hs1 ho1
      go_wp2_with (at_builtin; refine wpList_cat elem22 rfl (.tmp 75) (.tmp 77) rfl rfl rfl hown1 i4 rfl HA4.out (by omega) (by omega) ?_; intro v2 w2 hown2)
      have st2 := st1.cat hown2
      refine (flush_any w.heap.size h2 w2 st2.strm).mono ?_
      rintro e w3 ⟨v3, rfl, ho3, hs3, hf3⟩
      have st3 := st2.fed hf3 hs3
      obtain ⟨A5, c5, rfl, i5, _, hA5, _⟩ := ho3.form2
      have HA5 := hide hA5
      have hown3 := st3.own
      clear hA5 st1 st2 hown1 hown2 i4 ho3 hs3 hf3
      go_wp2_with (at_builtin; refine wpList_cat elem22 rfl (.tmp 79) (.tmp 80) rfl rfl rfl hown3 i5 rfl HA5.out (by rw [List.length_append]; omega) (by omega) ?_; intro v4 w4 hown4)
      have st4 := st3.cat hown4
      rw [← HRU.out] at st4
      clear hown3 hown4 st3 i5
      refine (known_any _).mono ?_
      rintro e w5 ⟨rfl, hb5⟩
      have st5 := st4.later hb5
      clear st4 hb5
      go_wp2_with fail
      refine (rrunes_any a n cap xs w5 (st5.ints rfl hi) HX.out hncap HN0.out hmaxl (by omega) hy).mono ?_
      rintro e w6 ⟨v6, rfl, ho6⟩
      have st6 := st5.later ho6.bel
      obtain ⟨A6, c6, rfl, i6, _, _, _⟩ := ho6.form2
      obtain ⟨A7, c7, hv7, i7, _, _, _⟩ := st6.own.form2
      subst hv7
      clear st5 ho6
      go_wp2_with fail
      refine (same_yes A7 A6 _ c7 c6 (runes xs) w6 i7 i6 rfl (by omega) hrn).mono ?_
      rintro e w7 ⟨rfl, hb7⟩
      have st7 := st6.later hb7
      clear st6 i6 i7 hb7
      go_wp2_with fail
      refine (held_any w.heap.size [] w7 st7.strm).mono ?_
      rintro e w8 ⟨v8, rfl, ho8⟩
      have st8 := st7.later ho8.bel
      obtain ⟨A8, c8, rfl, i8, _, _, _⟩ := ho8.form2
      clear st7 i8 ho8
      go_wp2_with fail
      refine (flush_any w.heap.size [] w8 st8.strm).mono ?_
      rintro e w9 ⟨v9, rfl, ho9, hs9, hf9⟩
      have st9 := st8.fed hf9 hs9
      rw [show flushed [] = [] from rfl] at ho9
      obtain ⟨A9, c9, rfl, i9, _, _, _⟩ := ho9.form2
      clear st8 ho9 i9 hs9 hf9
      go_wp2_with fail
      refine (feedNil_any _ w9).mono ?_
      rintro e w10 ⟨rfl, rfl⟩
      go_wp2_with fail
      refine (heldNil_any w9).mono ?_
      rintro e w10 ⟨rfl, rfl⟩
      go_wp2_with fail
      refine (flushNil_any w9).mono ?_
      rintro e w10 ⟨rfl, rfl⟩
      go_wp2
      go_ret
      exact ⟨rfl, st9.bel⟩
end Go.Proofs.Ytlblkoijkaaciaa
