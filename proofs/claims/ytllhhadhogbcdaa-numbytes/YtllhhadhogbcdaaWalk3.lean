/-
  The walk of the law NumBytes.
-/
import Derived.Test.YtllhhadhogbcdaaRow
namespace Go.Proofs.Ytllhhadhogbcdaa
open Go.ChangeShapes Go.WideShapes Go.ChangeAt Go.RowKit

theorem encAll_one' (n : Nat) : encAll [(n : Int)] = enc n := by rw [encAll_one, Int.toNat_natCast]
theorem encAll_at (xs : List Int) (k n : Nat) (hk : k < xs.length) (hn : xs.getD k 0 = (n : Int)) :
    (encAll xs).drop (encAll (xs.take k)).length = enc n ++ encAll (xs.drop (k + 1)) ∧ (encAll (xs.take (k + 1))).length = (encAll (xs.take k)).length + (enc n).length ∧
      (encAll (xs.take (k + 1))).length ≤ (encAll xs).length := by
  have hd := drop_at xs k n hk hn
  have e1 : encAll xs = encAll (xs.take k) ++ (enc n ++ encAll (xs.drop (k + 1))) := by
    rw [← encAll_one' n, ← encAll_append, List.singleton_append, ← hd, ← encAll_append, List.take_append_drop]
  have e2 : encAll (xs.take (k + 1)) = encAll (xs.take k) ++ enc n := by
    rw [List.take_succ_eq_append_getElem hk, encAll_append, encAll_one]
    rw [List.getD_eq_getElem?_getD, List.getElem?_eq_getElem hk] at hn
    simp at hn
    rw [hn, Int.toNat_natCast]
  refine ⟨?_, by rw [e2, List.length_append], by rw [e2, e1]; simp⟩
  conv => lhs; rw [e1]
  rw [List.drop_left]

set_option maxRecDepth 100000 in
set_option maxHeartbeats 1000000 in
theorem numBytes_walk (a : Option Addr) (len cap : Nat) (zs : List Int) (w : World) (hrow : IsRow .u64 w a len cap zs) :
    Calls Try.prog 3 #[.slice a len cap] w fun e w' => e = .returned (.bool true) ∧ Below w.heap.size w w' := by
  obtain ⟨hz, hl, hn0, hmax⟩ := hrow.len
  obtain ⟨n, hn, hn30, hnl⟩ : ∃ n : Nat, min (len : Int) 30 = (n : Int) ∧ n ≤ 30 ∧ n ≤ len := ⟨min len 30, by omega, by omega, by omega⟩
  have hi := hrow.ints.take n
  have hb := u64s_of hrow.wf n
  have hx : (zs.take n).length = n := by rw [List.length_take]; omega
  unfold maxLen at hmax
  clear hrow
  have HX := hide hx
  clear hz hn0 hx
  generalize zs.take n = xs at *
  have hby := encAll_byte xs hb
  have hlb := encAll_len xs
  have HB := hide hb
  clear hb
  go_enter Try.func3, Try.ntmps3
  go_wp2_with fail
  refine (bytes_any a n cap xs w hi HX.out (by omega) HB.out).mono ?_
  rintro e w1 ⟨v1, rfl, hv1⟩
  obtain ⟨A1, c1, rfl, hi1, hc1, hA1⟩ := hv1.form
  go_wp2_with fail
  refine (all_any a n cap xs w1 (hi.below hv1.bel) HX.out (by omega) HB.out).mono ?_
  rintro e w2 ⟨v2, rfl, hv2⟩
  obtain ⟨A2, c2, rfl, hi2, hc2, hA2⟩ := hv2.form
  go_wp2_with fail
  refine (same_yes A1 A2 _ _ _ (encAll xs) _ (hi1.below hv2.bel) hi2 rfl hby).mono ?_
  rintro e w3 ⟨rfl, rfl⟩
  have hb2 : Below w.heap.size w w2 := hv1.bel.trans (hv2.bel.mono hv1.le)
  have hiL : Ints .u64 w2 a xs := (hi.below hv1.bel).below hv2.bel
  have hiB : Ints .u8 w2 A1 (encAll xs) := hi1.below hv2.bel
  have hlx : xs.length = n := HX.out
  clear hi hi1 hi2 hv1 hv2 hlx hA2 hc2
  go_wp2
  go_loopw [4, 5, 6, 7, 8] (fun t i _ _ _ wr => ∃ k q : Nat, k ≤ n ∧ i = .int .i64 k ∧ t = .int .i64 q ∧ q = (encAll (xs.take k)).length ∧ q ≤ (encAll xs).length ∧ Below w2.heap.size w2 wr)
    (fun _ i _ _ _ _ => n - (intOf i).toNat)
  case atStart => exact ⟨0, 0, Nat.zero_le _, rfl, rfl, by simp [encAll], Nat.zero_le _, Below.refl _ _⟩
  case round =>
    obtain ⟨k, q, hk, rfl, rfl, hq, hqle, hnx⟩ := hrel
    have HQ := hide hq
    clear hq
    by_cases hlt : k < n
    · obtain ⟨m, hm, hm64⟩ := getD_nat xs HB.out k (by rw [HX.out]; exact hlt)
      obtain ⟨hd, hlen1, hle1⟩ := encAll_at xs k m (by rw [HX.out]; exact hlt) hm
      obtain ⟨b, off, rfl, hc, hb⟩ := hiL.at (i := k) (by rw [HX.out]; exact hlt)
      rw [hm, ← hnx.cell (p := ⟨b, off + k, none⟩) hb] at hc
      rw [← HQ.out] at hd hlen1
      have HD := hide hd
      have HL1 := hide hlen1
      have hem := enc_len m
      have hq1 : q + (enc m).length ≤ (encAll xs).length := by rw [← hlen1]; exact hle1
      have hlx : xs.length ≤ 30 := by rw [HX.out]; exact hn30
      clear hm hd hlen1 hle1
      go_wp2_with fail
      refine (read_any _ _ _ ((encAll xs).drop q) wr ((hiB.below hnx).drop q) (by simp) (by omega) (fun x hx => hby x (List.mem_of_mem_drop hx))).mono ?_
      rintro e w3 ⟨rfl, rfl⟩
      rw [HD.out, rd_of_enc m _ hm64]
      go_wp2_with fail
      refine (size_any m wr hm64).mono ?_
      rintro e w3 ⟨rfl, rfl⟩
      go_wp2_with fail
      refine (rbytes_any m wr hm64).mono ?_
      rintro e w3 ⟨v3, rfl, hv3⟩
      obtain ⟨A3, c3, rfl, hi3, hc3, hA3⟩ := hv3.form
      go_wp2
      go_roundw
      case rel => exact ⟨k + 1, q + (enc m).length, by omega, by go_num, by go_num, HL1.out.symm, by omega, hnx.trans (hv3.bel.mono hnx.size)⟩
      case measure => simp [intOf]; omega
    · have HF : Hid (q = (encAll xs).length) := by
        have := HQ.out
        rw [List.take_of_length_le (by rw [HX.out]; omega)] at this
        exact this
      have hqe : ((q : Int) == ((encAll xs).length : Int)) = true := by rw [HF.out]; simp
      go_wp2_with fail
      refine (known_any _).mono ?_
      rintro e w3 ⟨rfl, hb3⟩
      go_wp2
      go_ret
      exact ⟨rfl, (hb2.trans (hnx.mono hb2.size)).trans (hb3.mono (by have := hb2.size; have := hnx.size; omega))⟩
end Go.Proofs.Ytllhhadhogbcdaa
