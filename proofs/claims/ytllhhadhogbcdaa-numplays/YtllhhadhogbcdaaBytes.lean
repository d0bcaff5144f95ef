/-
  Contracts of the functions that make bytes of numbers: num.Bytes, the document's Bytes and All.
-/
import Derived.Test.YtllhhadhogbcdaaSums
namespace Go.Proofs.Ytllhhadhogbcdaa
open Go.ChangeShapes Go.WideShapes Go.ChangeAt Go.RowKit

theorem info5 : (Try.prog.info? 5).map (fun i => (i.zero, i.size, i.bytes)) = some (some (.int .u8 0), 1, 1) := by kernel_rfl

theorem elem23 : Elem Try.prog 23 5 .u8 1 := ⟨Try.underlying23, info5⟩

/-- The call made a row of these bytes, and left all that was there. -/
def Made (w : World) (bs : List Int) (e : Ending) (w' : World) : Prop := ∃ v, e = .returned v ∧ Own 5 .u8 w.heap.size w w' v bs

theorem and127 (m : Nat) (h : m < 18446744073709551616) : bits .and .u64 (m : Int) 127 = ((m % 128 : Nat) : Int) := by
  have := u64_and_nat m 127 h (by omega)
  rw [show m &&& 127 = m % 128 from Nat.and_two_pow_sub_one_eq_mod m 7] at this
  exact this
theorem or128_all : ∀ m : Fin 128, bits .or .u8 ((m.val : Nat) : Int) 128 = ((128 + m.val : Nat) : Int) := by decide +kernel
theorem or128 (m : Nat) : bits .or .u8 ((m : Int) % 128) 128 = ((128 + m % 128 : Nat) : Int) := or128_all ⟨m % 128, by omega⟩
theorem pow10 {n : Nat} (h : n < 18446744073709551616) : n < 128 ^ (9 + 1) := by
  have : (128 : Nat) ^ (9 + 1) = 1180591620717411303424 := by decide
  omega
theorem getD_nat (zs : List Int) (h : ∀ z ∈ zs, 0 ≤ z ∧ z < 18446744073709551616) (k : Nat) (hk : k < zs.length) : ∃ n : Nat, zs.getD k 0 = (n : Int) ∧ n < 18446744073709551616 := by
  have hm : zs.getD k 0 ∈ zs := by
    rw [List.getD_eq_getElem?_getD, List.getElem?_eq_getElem hk]
    exact List.getElem_mem hk
  have := h _ hm
  exact ⟨(zs.getD k 0).toNat, by omega, by omega⟩

theorem len_of_acc {acc t u : List Int} (h : acc ++ t = u) : acc.length ≤ u.length := by rw [← h]; simp

set_option maxHeartbeats 1000000 in
theorem bytes_any (a : Option Addr) (len cap : Nat) (zs : List Int) (w : World) (h : Ints .u64 w a zs) (hl : zs.length = len) (hlen : len ≤ 100) (hz : ∀ z ∈ zs, 0 ≤ z ∧ z < 18446744073709551616) :
    Calls Try.prog 9 #[.slice a len cap] w (Made w (encAll zs)) := by
  have HL := hide hl
  clear hl
  go_enter Try.func9, Try.ntmps9
  go_wp2
  go_loopw [3, 5, 8] (fun v n i wr => ∃ k : Nat, k ≤ len ∧ i = .int .i64 k ∧ Own 5 .u8 w.heap.size w wr v (encAll (zs.take k)))
    (fun _ _ i _ => len - (intOf i).toNat)
  case atStart => exact ⟨0, Nat.zero_le _, rfl, Own.start (Nat.le_refl _)⟩
  case round =>
    obtain ⟨k, hk, rfl, hown⟩ := hrel
    by_cases hlt : k < len
    · obtain ⟨b, off, rfl, hc, hb⟩ := h.at (i := k) (by rw [HL.out]; exact hlt)
      have hcx : wr.cell? ⟨b, off + k, none⟩ = some (.int .u64 (zs.getD k 0)) := (hown.bel.cell (by exact hb)).trans hc
      obtain ⟨n, hn, hn64⟩ := getD_nat zs hz k (by rw [HL.out]; exact hlt)
      rw [hn] at hcx
      have hl1 := encAll_len (zs.take k)
      have hl2 := (enc_len n).2
      have hl3 : (zs.take k).length ≤ k := List.length_take_le _ _
      have HT : Hid (encAll (zs.take (k + 1)) = encAll (zs.take k) ++ enc n) := by
        unfold Hid
        rw [List.take_succ_eq_append_getElem (by rw [HL.out]; exact hlt), encAll_append, encAll_one]
        rw [List.getD_eq_getElem?_getD, List.getElem?_eq_getElem (by rw [HL.out]; exact hlt)] at hn
        simp at hn
        rw [hn, Int.toNat_natCast]
      clear hn hc
      go_wp2
      go_loopw [3, 5] (fun v x wi => ∃ (m f : Nat) (acc : List Int), x = .int .u64 m ∧ m < 18446744073709551616 ∧ m < 128 ^ (f + 1) ∧ acc ++ encF f m = enc n ∧
          Own 5 .u8 w.heap.size w wi v (encAll (zs.take k) ++ acc)) (fun _ x _ => (intOf x).toNat)
      case atStart => exact ⟨n, 9, [], rfl, hn64, pow10 hn64, rfl, by simpa using hown⟩
      case round =>
        obtain ⟨m, f, acc, rfl, hm64, hmf, hacc, howni⟩ := hrel
        have hl4 := len_of_acc hacc
        have hl5 : (encAll (zs.take k) ++ acc).length ≤ 1010 := by rw [List.length_append]; omega
        have HA := hide hacc
        clear hacc
        by_cases hm : m < 128
        · go_wp2_with (at_builtin; refine wpList_push elem23 rfl _ _ rfl rfl rfl howni (by omega) (by omega) ?_; intro v' w1 hown')
          go_roundw
          case rel => exact ⟨k + 1, by omega, by go_num, by
            have e := HA.out
            rw [encF_small _ _ hm] at e
            rw [HT.out, ← e, ← List.append_assoc]
            exact hown'⟩
          case measure => simp [intOf]; omega
        · have e1 := and127 m hm64
          have hm' : (127 : Int) < (m : Int) := by omega
          go_wp2_with (at_builtin; refine wpList_push elem23 rfl _ _ rfl rfl rfl howni (by omega) (by omega) ?_; intro v' w1 hown')
          obtain ⟨f, rfl⟩ : ∃ f', f = f' + 1 := ⟨f - 1, by rcases f with _ | f <;> simp_all⟩
          go_roundw
          case rel =>
            refine ⟨m / 128, f, acc ++ [((128 + m % 128 : Nat) : Int)], ?_, by omega, ?_, ?_, ?_⟩
            · go_num
            · exact Nat.div_lt_of_lt_mul (by rw [Nat.pow_succ] at hmf; omega)
            · have e := HA.out
              rw [encF_big _ _ hm] at e
              simpa using e
            · rw [← List.append_assoc, ← or128]; exact hown'
          case measure => simp [intOf]; omega
    · go_wp2
      go_ret
      exact ⟨_, rfl, by rw [List.take_of_length_le (by rw [HL.out]; omega)] at hown; exact hown⟩

set_option maxRecDepth 100000 in
set_option maxHeartbeats 1000000 in
theorem rbytes_any (n : Nat) (w : World) (hn64 : n < 18446744073709551616) : Calls Try.prog 14 #[.int .u64 n] w (Made w (enc n)) := by
  have hl2 := (enc_len n).2
  go_enter Try.func14, Try.ntmps14
  go_wp2
  go_loopw [3, 0] (fun v x wi => ∃ (m f : Nat) (acc : List Int), x = .int .u64 m ∧ m < 18446744073709551616 ∧ m < 128 ^ (f + 1) ∧ acc ++ encF f m = enc n ∧
      Own 5 .u8 w.heap.size w wi v acc) (fun _ x _ => (intOf x).toNat)
  case atStart => exact ⟨n, 9, [], rfl, hn64, pow10 hn64, rfl, Own.start (Nat.le_refl _)⟩
  case round =>
    obtain ⟨m, f, acc, rfl, hm64, hmf, hacc, howni⟩ := hrel
    have hl4 := len_of_acc hacc
    have HA := hide hacc
    clear hacc
    by_cases hm : m < 128
    · go_wp2_with (at_builtin; refine wpList_push elem23 rfl _ _ rfl rfl rfl howni (by omega) (by omega) ?_; intro v' w1 hown')
      go_ret
      refine ⟨_, rfl, ?_⟩
      have e := HA.out
      rw [encF_small _ _ hm] at e
      rw [← e]
      exact hown'
    · have hm' : (127 : Int) < (m : Int) := by omega
      go_wp2_with (at_builtin; refine wpList_push elem23 rfl _ _ rfl rfl rfl howni (by omega) (by omega) ?_; intro v' w1 hown')
      obtain ⟨f, rfl⟩ : ∃ f', f = f' + 1 := ⟨f - 1, by rcases f with _ | f <;> simp_all⟩
      go_roundw
      case rel =>
        refine ⟨m / 128, f, acc ++ [((128 + m % 128 : Nat) : Int)], ?_, by omega, ?_, ?_, ?_⟩
        · go_num
        · exact Nat.div_lt_of_lt_mul (by rw [Nat.pow_succ] at hmf; omega)
        · have e := HA.out
          rw [encF_big _ _ hm] at e
          simpa using e
        · exact hown'
      case measure => simp [intOf]; omega

end Go.Proofs.Ytllhhadhogbcdaa
