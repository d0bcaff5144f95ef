/-
  Contracts: num.Read and the document's Read.
-/
import Derived.Test.YtllhhadhogbcdaaKnown
import Derived.WalkMore
import Derived.ScopeJumps
namespace Go.Proofs.Ytllhhadhogbcdaa
open Go.ChangeShapes Go.WideShapes Go.ChangeAt Go.RowKit

theorem ret_bool {a b : Bool} (h : a = b) : Ending.returned (.bool a) = .returned (.bool b) := by rw [h]

def misB (k c : Nat) : Bool := decide (k = 9 ∧ 1 < c ∨ 0 < k ∧ c = 0)

set_option maxHeartbeats 400000 in
theorem mis_any (k c : Nat) (w : World) (hk : k ≤ 1000000) (hc : c ≤ 255) :
    Calls Try.prog 35 #[.int .i64 k, .int .u8 c] w fun e w' => e = .returned (.bool (misB k c)) ∧ w = w' := by
  by_cases h0 : c = 0
  · by_cases h1 : 0 < k
    · have H : Hid (misB k c = true) := by unfold Hid misB; simp; omega
      subst h0
      go_enter Try.func35, Try.ntmps35
      go_wp2
      go_ret
      exact ⟨ret_bool H.out.symm, rfl⟩
    · have H : Hid (misB k c = false) := by unfold Hid misB; simp; omega
      obtain rfl : k = 0 := by omega
      subst h0
      go_enter Try.func35, Try.ntmps35
      go_wp2
      go_ret
      exact ⟨ret_bool H.out.symm, rfl⟩
  · have h2 : ((c : Int) == 0) = false := by simp; omega
    by_cases h1 : k = 9
    · subst h1
      by_cases h3 : 1 < c
      · have H : Hid (misB 9 c = true) := by unfold Hid misB; simp; omega
        have h3' : decide ((1 : Int) < (c : Int)) = true := by simp; omega
        go_enter Try.func35, Try.ntmps35
        go_wp2
        go_ret
        exact ⟨ret_bool H.out.symm, rfl⟩
      · have H : Hid (misB 9 c = false) := by unfold Hid misB; simp; omega
        have h3' : decide ((1 : Int) < (c : Int)) = false := by simp; omega
        go_enter Try.func35, Try.ntmps35
        go_wp2
        go_ret
        exact ⟨ret_bool H.out.symm, rfl⟩
    · have H : Hid (misB k c = false) := by unfold Hid misB; simp; omega
      have h4 : ((k : Int) == 9) = false := by simp; omega
      go_enter Try.func35, Try.ntmps35
      go_wp2
      go_ret
      exact ⟨ret_bool H.out.symm, rfl⟩

def RdPost (r : Int × Int × Int) (w : World) (e : Ending) (w' : World) : Prop := e = .returned (.tuple #[.int .u64 r.1, .int .i64 r.2.1, .int .i64 r.2.2]) ∧ w = w'

theorem getD_byte (zs : List Int) (h : Byte zs) (k : Nat) (hk : k < zs.length) : ∃ n : Nat, zs.getD k 0 = (n : Int) ∧ n ≤ 255 := by
  have hm : zs.getD k 0 ∈ zs := by
    rw [List.getD_eq_getElem?_getD, List.getElem?_eq_getElem hk]
    exact List.getElem_mem hk
  have := h _ hm
  exact ⟨(zs.getD k 0).toNat, by omega, by omega⟩

theorem drop_at (zs : List Int) (k : Nat) (n : Int) (hk : k < zs.length) (h : zs.getD k 0 = n) : zs.drop k = n :: zs.drop (k + 1) := by
  rw [List.drop_eq_getElem_cons hk]
  rw [List.getD_eq_getElem?_getD, List.getElem?_eq_getElem hk] at h
  simp at h
  rw [h]

theorem and127_8_all : ∀ c : Fin 256, bits .and .u8 ((c.val : Nat) : Int) 127 = ((c.val % 128 : Nat) : Int) := by decide +kernel
theorem and127_8 (c : Nat) (h : c ≤ 255) : bits .and .u8 (c : Int) 127 = ((c % 128 : Nat) : Int) := and127_8_all ⟨c, by omega⟩
theorem digit_bd (k c : Nat) (hk : k ≤ 9) (h9 : k = 9 → c ≤ 1) : c % 128 * 128 ^ k < 18446744073709551616 := by
  rcases Nat.lt_or_ge k 9 with h | h
  · have h1 : (128 : Nat) ^ k ≤ 128 ^ 8 := Nat.pow_le_pow_right (by omega) (by omega)
    have e8 : (128 : Nat) ^ 8 = 72057594037927936 := by decide
    have : c % 128 * 128 ^ k ≤ 127 * 128 ^ 8 := Nat.mul_le_mul (by omega) h1
    omega
  · obtain rfl : k = 9 := by omega
    have e9 : (128 : Nat) ^ 9 = 9223372036854775808 := by decide
    have := h9 rfl
    rw [e9]; omega
theorem pow128 (k : Nat) : (128 : Nat) ^ k = 2 ^ (7 * k) := by rw [Nat.pow_mul]
theorem or_shift (m c k : Nat) (hk : k ≤ 9) (hm : m < 128 ^ k) (hc : c ≤ 255) (h9 : k = 9 → c ≤ 1) :
    bits .or .u64 (m : Int) (IntKind.u64.wrap (IntKind.u64.wrap (bits .and .u8 (c : Int) 127) * 2 ^ (7 * k))) = ((m + c % 128 * 128 ^ k : Nat) : Int) := by
  have hd := digit_bd k c hk h9
  have hmm : m < 18446744073709551616 := by
    have h1 : (128 : Nat) ^ k ≤ 128 ^ 9 := Nat.pow_le_pow_right (by omega) hk
    have e9 : (128 : Nat) ^ 9 = 9223372036854775808 := by decide
    omega
  rw [and127_8 c hc, IntKind.wrap_u64 ((c % 128 : Nat) : Int), show ((c % 128 : Nat) : Int) % 18446744073709551616 = ((c % 128 : Nat) : Int) by omega]
  have e : ((c % 128 : Nat) : Int) * 2 ^ (7 * k) = ((c % 128 * 128 ^ k : Nat) : Int) := by
    rw [pow128, Int.natCast_mul, Int.natCast_pow]; rfl
  rw [e, IntKind.wrap_u64, show ((c % 128 * 128 ^ k : Nat) : Int) % 18446744073709551616 = ((c % 128 * 128 ^ k : Nat) : Int) by omega, u64_or_nat m _ hmm hd]
  congr 1
  rw [pow128] at hm ⊢
  rw [Nat.or_comm, Nat.mul_comm, ← Nat.two_pow_add_eq_or_of_lt hm, Nat.add_comm]
theorem step_bd (m c k : Nat) (hm : m < 128 ^ k) : m + c % 128 * 128 ^ k < 128 ^ (k + 1) := by
  rw [Nat.pow_succ]
  have : c % 128 * 128 ^ k ≤ 127 * 128 ^ k := Nat.mul_le_mul_right _ (by omega)
  omega

theorem rd_mis (k m c : Nat) (r : List Int) (h : misB k c = true) : rd k m ((c : Int) :: r) = (0, 0, 3) := by
  have h' : k = 9 ∧ 1 < c ∨ 0 < k ∧ c = 0 := by simpa [misB] using h
  rw [rd, if_pos (by omega)]
theorem rd_end (k m c : Nat) (r : List Int) (h : ¬ (k = 9 ∧ 1 < c ∨ 0 < k ∧ c = 0)) (hc : c < 128) : rd k m ((c : Int) :: r) = (((m + c % 128 * 128 ^ k : Nat) : Int), ((k + 1 : Nat) : Int), 0) := by
  rw [rd, if_neg (by omega), if_pos (by omega)]
  rfl
theorem rd_on (k m c : Nat) (r : List Int) (h : ¬ (k = 9 ∧ 1 < c ∨ 0 < k ∧ c = 0)) (hc : ¬ c < 128) : rd k m ((c : Int) :: r) = rd (k + 1) (m + c % 128 * 128 ^ k) r := by
  rw [rd, if_neg (by omega), if_neg (by omega)]
  rfl

/-- The frame at the jump: the error's slot holds 3. -/
def AtWrong (a : Act) : Prop := ∃ u0 u1 u2 u3 u4 u5 u7 u8 u9 u10 u11 u12 u13 u14 u15 u16 u17 u18 u19 u20 u21 u22 u23 u24 u25 u26 u27 u28 u29 u30 u31 u32 u33, a = { tmps := #[u0, u1, u2, u3, u4, u5, .int .i64 3, u7, u8, u9, u10, u11, u12, u13, u14, u15, u16, u17, u18, u19, u20, u21, u22, u23, u24, u25, u26, u27, u28, u29, u30, u31, u32, u33], defers := [] }

set_option maxRecDepth 100000 in
set_option maxHeartbeats 1000000 in
theorem read_any (a : Option Addr) (len cap : Nat) (zs : List Int) (w : World) (h : Ints .u8 w a zs) (hl : zs.length = len) (_hlen : len ≤ 1000000) (hz : Byte zs) :
    Calls Try.prog 12 #[.slice a len cap] w (RdPost (rd 0 0 zs) w) := by
  have HL := hide hl
  clear hl
  go_enter Try.func12, Try.ntmps12
  go_wp2
  refine wp_scope_jumps 0 (fun a' w' => w = w' ∧ AtWrong a' ∧ Hid (rd 0 0 zs = (0, 0, 3))) (fun _ _ => 0) rfl ?_ ?_
  · go_wp2
    go_loop [5, 6, 7, 8, 11] (fun n e _ _ i => ∃ k m : Nat, k ≤ 9 ∧ k ≤ len ∧ i = .int .i64 k ∧ e = .int .i64 4 ∧ n = .int .u64 m ∧ m < 128 ^ k ∧ rd k m (zs.drop k) = rd 0 0 zs)
      (fun _ _ _ _ i => len - (intOf i).toNat)
    case atStart => exact ⟨0, 0, by omega, Nat.zero_le _, rfl, rfl, rfl, by simp, by simp⟩
    case round =>
      obtain ⟨k, m, hk9, hk, rfl, rfl, rfl, hm, hrd⟩ := hrel
      have HR := hide hrd
      clear hrd
      by_cases hlt : k < len
      · obtain ⟨b, off, rfl, hc, hb⟩ := h.at (i := k) (by rw [HL.out]; exact hlt)
        obtain ⟨c, hn, hc255⟩ := getD_byte zs hz k (by rw [HL.out]; exact hlt)
        have HD := hide (drop_at zs k c (by rw [HL.out]; exact hlt) hn)
        rw [hn] at hc
        clear hn
        by_cases hmis : misB k c = true
        · go_wp2_with (go_at_call 35; refine (mis_any k c _ (by omega) hc255).mono ?_; rintro e w' ⟨rfl, rfl⟩)
          go_step3
          refine ⟨rfl, rfl, ⟨_, _, _, _, _, _, _, _, _, _, _, _, _, _, _, _, _, _, _, _, _, _, _, _, _, _, _, _, _, _, _, _, _, rfl⟩, ?_⟩
          rw [← HR.out, HD.out]
          exact rd_mis k m c _ hmis
        · have hmis' : misB k c = false := by simpa using hmis
          have hno : ¬ (k = 9 ∧ 1 < c ∨ 0 < k ∧ c = 0) := by simpa [misB] using hmis
          have HO := hide (or_shift m c k hk9 hm hc255 (by omega))
          have hsb := step_bd m c k hm
          clear hmis
          by_cases hc128 : c < 128
          · go_wp2_with (go_at_call 35; refine (mis_any k c _ (by omega) hc255).mono ?_; rintro e w' ⟨rfl, rfl⟩)
            simp only [Exit.jump]
            go_ret3
            refine ⟨?_, rfl⟩
            rw [← HR.out, HD.out, rd_end k m c _ hno hc128, ← HO.out]
            rfl
          · go_wp2_with (go_at_call 35; refine (mis_any k c _ (by omega) hc255).mono ?_; rintro e w' ⟨rfl, rfl⟩)
            go_round
            case rel =>
              refine ⟨k + 1, m + c % 128 * 128 ^ k, by omega, by omega, by go_num, rfl, ?_, hsb, ?_⟩
              · rw [← HO.out]
              · rw [← HR.out, HD.out, rd_on k m c _ hno hc128]
            case measure => simp [intOf]; omega
      · go_wp2
        go_step3
        go_wp2
        simp only [Exit.jump]
        go_ret3
        refine ⟨?_, rfl⟩
        rw [← HR.out, List.drop_eq_nil_of_le (by rw [HL.out]; omega)]
        rfl
  · rintro a' w' ⟨rfl, ⟨u0, u1, u2, u3, u4, u5, u7, u8, u9, u10, u11, u12, u13, u14, u15, u16, u17, u18, u19, u20, u21, u22, u23, u24, u25, u26, u27, u28, u29, u30, u31, u32, u33, rfl⟩, H3⟩
    go_wp2
    simp only [Exit.jump]
    go_ret3
    refine ⟨?_, rfl⟩
    rw [H3.out]
    rfl

theorem mul_add_eq (m c k : Nat) (hk : k ≤ 9) (hm : m < 128 ^ k) (h9 : k = 9 → c ≤ 1) :
    IntKind.u64.wrap ((m : Int) + IntKind.u64.wrap ((c : Int) % 128 * ((128 ^ k : Nat) : Int))) = ((m + c % 128 * 128 ^ k : Nat) : Int) := by
  have hd := digit_bd k c hk h9
  have hs : m + c % 128 * 128 ^ k < 18446744073709551616 := by
    rcases Nat.lt_or_ge k 9 with h | h
    · have h1 := step_bd m c k hm
      have h2 : (128 : Nat) ^ (k + 1) ≤ 128 ^ 9 := Nat.pow_le_pow_right (by omega) (by omega)
      have e9 : (128 : Nat) ^ 9 = 9223372036854775808 := by decide
      omega
    · obtain rfl : k = 9 := by omega
      have e9 : (128 : Nat) ^ 9 = 9223372036854775808 := by decide
      have := h9 rfl
      rw [e9] at hm hd ⊢
      omega
  have e : (c : Int) % 128 * ((128 ^ k : Nat) : Int) = ((c % 128 * 128 ^ k : Nat) : Int) := by
    rw [Int.natCast_mul]; rfl
  rw [e, IntKind.wrap_u64 ((c % 128 * 128 ^ k : Nat) : Int), show ((c % 128 * 128 ^ k : Nat) : Int) % 18446744073709551616 = ((c % 128 * 128 ^ k : Nat) : Int) by omega, IntKind.wrap_u64, ← Int.natCast_add]
  omega
theorem unit_eq (k : Nat) (hk : k ≤ 8) : IntKind.u64.wrap (((128 ^ k : Nat) : Int) * 128) = ((128 ^ (k + 1) : Nat) : Int) := by
  have h2 : (128 : Nat) ^ (k + 1) ≤ 128 ^ 9 := Nat.pow_le_pow_right (by omega) (by omega)
  have e9 : (128 : Nat) ^ 9 = 9223372036854775808 := by decide
  rw [IntKind.wrap_u64, Nat.pow_succ] at *
  omega

set_option maxRecDepth 100000 in
set_option maxHeartbeats 1000000 in
theorem rread_any (a : Option Addr) (len cap : Nat) (zs : List Int) (w : World) (h : Ints .u8 w a zs) (hl : zs.length = len) (_hlen : len ≤ 1000000) (hz : Byte zs) :
    Calls Try.prog 16 #[.slice a len cap] w (RdPost (rd 0 0 zs) w) := by
  have HL := hide hl
  clear hl
  go_enter Try.func16, Try.ntmps16
  go_wp2
  go_loop [5, 6, 7, 8] (fun n u i _ => ∃ k m p : Nat, k ≤ 9 ∧ k ≤ len ∧ i = .int .i64 k ∧ u = .int .u64 p ∧ p = 128 ^ k ∧ n = .int .u64 m ∧ m < 128 ^ k ∧ rd k m (zs.drop k) = rd 0 0 zs)
    (fun _ _ i _ => len - (intOf i).toNat)
  case atStart => exact ⟨0, 0, 1, by omega, Nat.zero_le _, rfl, rfl, rfl, rfl, by simp, by simp⟩
  case round =>
    obtain ⟨k, m, p, hk9, hk, rfl, rfl, hp, rfl, hm, hrd⟩ := hrel
    have HR := hide hrd
    have HP := hide hp
    clear hrd hp
    by_cases hlt : k < len
    · obtain ⟨b, off, rfl, hc, hb⟩ := h.at (i := k) (by rw [HL.out]; exact hlt)
      obtain ⟨c, hn, hc255⟩ := getD_byte zs hz k (by rw [HL.out]; exact hlt)
      have HD := hide (drop_at zs k c (by rw [HL.out]; exact hlt) hn)
      rw [hn] at hc
      clear hn
      have fin3 : misB k c = true → RdPost (rd 0 0 zs) w (.returned (.tuple #[.int .u64 0, .int .i64 0, .int .i64 3])) w := fun hx => by
        refine ⟨?_, rfl⟩
        rw [← HR.out, HD.out, rd_mis k m c _ hx]
      have fin0 : ¬ (k = 9 ∧ 1 < c ∨ 0 < k ∧ c = 0) → c < 128 →
          RdPost (rd 0 0 zs) w (.returned (.tuple #[.int .u64 (IntKind.u64.wrap ((m : Int) + IntKind.u64.wrap ((c : Int) % 128 * (p : Int)))), .int .i64 ((k : Int) + 1), .int .i64 0])) w := fun hx hy => by
        refine ⟨?_, rfl⟩
        rw [← HR.out, HD.out, rd_end k m c _ hx hy, ← mul_add_eq m c k hk9 hm (by omega), ← HP.out]
        rfl
      have FIN3 := hide fin3
      have FIN0 := hide fin0
      clear fin3 fin0
      go_wp2
      · have q1 : (k : Int) = 9 := by assumption
        have q2 : (c : Int) ≤ 1 := by assumption
        have q3 : 1 < (c : Int) ∨ ((c : Int) == 0) = true := by assumption
        go_ret3
        rw [beq_iff_eq] at q3
        exact FIN3.out (by simp [misB]; omega)
      · have q1 : (k : Int) = 9 := by assumption
        have q2 : (c : Int) ≤ 1 := by assumption
        have q3 : (c : Int) ≤ 1 ∧ ((c : Int) == 0) = false := by assumption
        go_ret3
        rw [beq_eq_false_iff_ne] at q3
        have := FIN0.out (by omega) (by omega)
        rw [q1] at this
        exact this
      · have q1 : (k : Int) = 9 := by assumption
        have q2 : 1 < (c : Int) := by assumption
        go_ret3
        exact FIN3.out (by simp [misB]; omega)
      · have q1 : 0 < k := by assumption
        have q2 : ((c : Int) == 0) = true := by assumption
        go_ret3
        rw [beq_iff_eq] at q2
        exact FIN3.out (by simp [misB]; omega)
      · have q0 : ¬ (k : Int) = 9 := by assumption
        have q1 : ((c : Int) == 0) = false := by assumption
        have q2 : (c : Int) < 128 := by assumption
        go_ret3
        rw [beq_eq_false_iff_ne] at q1
        exact FIN0.out (by omega) (by omega)
      · have q0 : ¬ (k : Int) = 9 := by assumption
        have q1 : ((c : Int) == 0) = false := by assumption
        have q2 : 128 ≤ (c : Int) := by assumption
        rw [beq_eq_false_iff_ne] at q1
        go_round
        case rel =>
          refine ⟨k + 1, m + c % 128 * 128 ^ k, 128 ^ (k + 1), by omega, by omega, by go_num, ?_, rfl, ?_, step_bd m c k hm, ?_⟩
          · rw [HP.out, unit_eq k (by omega)]
          · rw [HP.out, mul_add_eq m c k hk9 hm (by omega)]
          · rw [← HR.out, HD.out, rd_on k m c _ (by omega) (by omega)]
        case measure => simp [intOf]; omega
      · have q0 : ¬ (k : Int) = 9 := by assumption
        have q1 : ¬ 0 < k := by assumption
        have q2 : (c : Int) < 128 := by assumption
        go_ret3
        exact FIN0.out (by omega) (by omega)
      · have q0 : ¬ (k : Int) = 9 := by assumption
        have q1 : ¬ 0 < k := by assumption
        have q2 : 128 ≤ (c : Int) := by assumption
        go_round
        case rel =>
          refine ⟨k + 1, m + c % 128 * 128 ^ k, 128 ^ (k + 1), by omega, by omega, by go_num, ?_, rfl, ?_, step_bd m c k hm, ?_⟩
          · rw [HP.out, unit_eq k (by omega)]
          · rw [HP.out, mul_add_eq m c k hk9 hm (by omega)]
          · rw [← HR.out, HD.out, rd_on k m c _ (by omega) (by omega)]
        case measure => simp [intOf]; omega
    · go_wp2
      go_ret3
      refine ⟨?_, rfl⟩
      rw [← HR.out, List.drop_eq_nil_of_le (by rw [HL.out]; omega)]
      rfl
end Go.Proofs.Ytllhhadhogbcdaa
