/-
  The walk of the law UtfBytes.
-/
import Derived.Test.YtlblkoijkaaciaaKnown
import Derived.Lib.MinMax
namespace Go.Proofs.Ytlblkoijkaaciaa
open Go.ChangeShapes Go.WideShapes Go.ChangeAt Go.RowKit
set_option linter.unusedVariables false

theorem i32_bd {a : Int} (h : (Lit.int .i32 a).wf = true) : -2147483648 ≤ a ∧ a ≤ 2147483647 := by
  simpa [Lit.wf, IntKind.min, IntKind.max, IntKind.signed, IntKind.bits] using h
theorem rn_of {zs : List Int} (h : ∀ n ∈ zs, (Lit.int .i32 n).wf = true) (n : Nat) : Rn (zs.take n) := fun x hx => i32_bd (h x (List.mem_of_mem_take hx))
theorem all_snoc (xs : List Int) (k : Nat) (r : Int) (hk : k < xs.length) (hr : xs.getD k 0 = r) : (xs.take (k + 1)).all isSc = ((xs.take k).all isSc && isSc r) := by
  rw [take_snoc xs k r hk hr, List.all_append]; simp
theorem map_fix (xs : List Int) (h : xs.all isSc = true) : xs.map fix = xs := by
  induction xs with
  | nil => rfl
  | cons r l ih =>
    rw [List.all_cons, Bool.and_eq_true] at h
    rw [List.map_cons, fix_of r h.1, ih h.2]

set_option maxRecDepth 100000 in
set_option maxHeartbeats 1000000 in
theorem utfBytes_walk (a : Option Addr) (len cap : Nat) (zs : List Int) (w : World) (hrow : IsRow .i32 w a len cap zs) :
    Calls Try.prog 3 #[.slice a len cap] w fun e w' => e = .returned (.bool true) ∧ Below w.heap.size w w' := by
  obtain ⟨hz, hl, hn0, hmax⟩ := hrow.len
  obtain ⟨n, hn, hn30, hnl⟩ : ∃ n : Nat, min (len : Int) 30 = (n : Int) ∧ n ≤ 30 ∧ n ≤ len := ⟨min len 30, by omega, by omega, by omega⟩
  have hi := hrow.ints.take n
  have hb := rn_of hrow.wf n
  have hx : (zs.take n).length = n := by rw [List.length_take]; omega
  unfold maxLen at hmax
  clear hrow
  have HX := hide hx
  clear hz hn0 hx
  generalize zs.take n = xs at *
  have hby := encA_byte xs
  have hlb := encA_len xs
  rw [HX.out] at hlb
  have hlx : xs.length ≤ 30 := by rw [HX.out]; exact hn30
  have hvl : vld (encA xs) = true := vld_encA xs
  go_enter Try.func3, Try.ntmps3
  go_wp2_with fail
  refine (bytes_any a n cap xs w hi HX.out (by omega)).mono ?_
  rintro e w1 ⟨v1, rfl, hv1⟩
  obtain ⟨A1, c1, rfl, hi1, hc1, hA1, hm1⟩ := hv1.form2
  have HA1 := hide hA1
  clear hA1
  go_wp2_with fail
  refine (ints_any a n cap xs w1 (hi.below hv1.bel) HX.out (by omega) hb).mono ?_
  rintro e w2 ⟨v2, rfl, hv2⟩
  obtain ⟨A2, c2, rfl, hi2, hc2, hA2, hm2⟩ := hv2.form2
  clear hA2
  go_wp2_with fail
  refine (all_any A2 xs.length c2 xs w2 hi2 rfl (by omega)).mono ?_
  rintro e w3 ⟨v3, rfl, hv3⟩
  obtain ⟨A3, c3, rfl, hi3, hc3, hA3, hm3⟩ := hv3.form2
  clear hA3
  have hb12 : Below w.heap.size w w2 := hv1.bel.trans (hv2.bel.mono hv1.le)
  have hb13 : Below w.heap.size w w3 := hb12.trans (hv3.bel.mono hb12.size)
  have hi13 : Ints .u8 w3 A1 (encA xs) := (hi1.below hv2.bel).below hv3.bel
  have hiL : Ints .i32 w3 a xs := hi.below hb13
  go_wp2_with fail
  refine (bsame_yes A1 A3 _ _ _ (encA xs) w3 hi13 hi3 rfl hby).mono ?_
  rintro e w4 ⟨rfl, rfl⟩
  clear hi hi1 hi2 hi3 hv1 hv2 hv3 hc2 hc3 hm2 hm3 hb12
  go_wp2_with fail
  refine (valid_any A1 _ c1 (encA xs) w3 hi13 rfl (by omega) hby).mono ?_
  rintro e w4 ⟨rfl, hb4⟩
  rw [hvl]
  clear hvl
  have hb04 : Below w.heap.size w w4 := hb13.trans (hb4.mono hb13.size)
  have hi4 := hi13.below hb4
  have hiL4 := hiL.below hb4
  clear hb13 hi13 hiL hb4
  go_wp2
  go_loopw [4, 5] (fun al i wr => ∃ k : Nat, k ≤ n ∧ i = .int .i64 k ∧ al = .bool ((xs.take k).all isSc) ∧ Below w4.heap.size w4 wr) (fun _ i _ => n - (intOf i).toNat)
  case atStart => exact ⟨0, Nat.zero_le _, rfl, by simp, Below.refl _ _⟩
  case round =>
    obtain ⟨k, hk, rfl, rfl, hbel⟩ := hrel
    obtain ⟨al, hal⟩ : ∃ al, (xs.take k).all isSc = al := ⟨_, rfl⟩
    rw [hal]
    have HAL := hide hal
    clear hal
    by_cases hlt : k < n
    · obtain ⟨b, off, rfl, hc, hb0⟩ := hiL4.at (i := k) (by rw [HX.out]; exact hlt)
      rw [← hbel.cell (p := ⟨b, off + k, none⟩) hb0] at hc
      have hbd := hb.at k (by rw [HX.out]; exact hlt)
      obtain ⟨r, hr⟩ : ∃ r, xs.getD k 0 = r := ⟨_, rfl⟩
      have HAS := hide (all_snoc xs k r (by rw [HX.out]; exact hlt) hr)
      rw [hr] at hc hbd
      obtain ⟨hr0, hr1⟩ := hbd
      clear hr
      obtain ⟨q, hq⟩ : ∃ q, isSc r = q := ⟨_, rfl⟩
      have hnq : (isSc r != isSc r) = false := by simp
      go_wp2
      go_quiet (first | (go_at_call 12; exact Calls.quiet_of_same ((scalar_any _ _).mono fun e w' h => ⟨h.1, h.2.symm⟩)) | (go_at_call 13; exact Calls.quiet_of_same ((rscalar_any _ _).mono fun e w' h => ⟨h.1, h.2.symm⟩)))
      have hbel' : Below w4.heap.size w4 (wr.drewN nq) := hbel.drewN _
      have hcd : (wr.drewN nq).cell? ⟨b, off + k, none⟩ = some (.int .i32 r) := hc
      generalize wr.drewN nq = wd at *
      cases al with
      | true =>
        go_wp2_with (go_at_call 12; refine (scalar_any _ _).mono ?_; rintro e w' ⟨rfl, rfl⟩)
        go_roundw
        case rel => exact ⟨k + 1, by omega, by go_num, by rw [HAS.out, HAL.out, Bool.true_and, hq], hbel'⟩
        case measure => simp [intOf]; omega
      | false =>
        go_wp2
        go_roundw
        case rel => exact ⟨k + 1, by omega, by go_num, by rw [HAS.out, HAL.out, Bool.false_and], hbel'⟩
        case measure => simp [intOf]; omega
    · have HKN : Hid (xs.take k = xs) := by unfold Hid; exact List.take_of_length_le (by rw [HX.out]; omega)
      have hb05 : Below w.heap.size w wr := hb04.trans (hbel.mono hb04.size)
      go_wp2_with fail
      refine (known_any _).mono ?_
      rintro e w5 ⟨rfl, hb5⟩
      have hb55 := hb05.trans (hb5.mono hb05.size)
      have hi5 := (hi4.below hbel).below hb5
      have hiL5 := (hiL4.below hbel).below hb5
      cases al with
      | false =>
        go_wp2
        go_ret
        exact ⟨rfl, hb55⟩
      | true =>
        have HRU : Hid (runes (encA xs) = xs) := by
          have h1 := HAL.out
          rw [HKN.out] at h1
          have := runes_enc xs []
          rw [List.append_nil, runes_nil, List.append_nil, map_fix xs h1] at this
          exact this
        go_wp2_with fail
        refine (runes_any A1 _ c1 (encA xs) w5 hi5 rfl hc1 HA1.out hm1 (by omega) hby).mono ?_
        rintro e w6 ⟨v6, rfl, hv6⟩
        rw [HRU.out] at hv6
        obtain ⟨A6, c6, rfl, hi6, _, _, _⟩ := hv6.form2
        go_wp2_with fail
        refine (ints_any a n cap xs w6 (hiL5.below hv6.bel) HX.out (by omega) hb).mono ?_
        rintro e w7 ⟨v7, rfl, hv7⟩
        obtain ⟨A7, c7, rfl, hi7, _, _, _⟩ := hv7.form2
        go_wp2_with fail
        refine (same_yes A6 A7 _ c6 c7 xs w7 (hi6.below hv7.bel) hi7 rfl (by omega) hb).mono ?_
        rintro e w8 ⟨rfl, hb8⟩
        go_wp2
        go_ret
        have hb6 := hb55.trans (hv6.bel.mono hb55.size)
        have hb7 := hb6.trans (hv7.bel.mono hb6.size)
        exact ⟨rfl, hb7.trans (hb8.mono hb7.size)⟩
end Go.Proofs.Ytlblkoijkaaciaa
