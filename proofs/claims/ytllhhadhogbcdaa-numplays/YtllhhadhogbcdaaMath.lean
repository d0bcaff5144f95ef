/-
  Plain mathematics of layer 1 (num): a number's groups of seven bits as a list of bytes, the reading of such a list, sums and differences within bounds. No Go text, no program.
-/
import Derived.Lib.BitFns
namespace Go.Proofs.Ytllhhadhogbcdaa

def addU (a b : Int) : Int := if a + b < 18446744073709551616 then a + b else 18446744073709551615
def subU (a b : Int) : Int := if a < b then 0 else a - b

/-- A number's bytes: at most f + 1 groups. -/
def encF : Nat → Nat → List Int
  | 0, n => [(n : Int)]
  | f + 1, n => if n < 128 then [(n : Int)] else ((128 + n % 128 : Nat) : Int) :: encF f (n / 128)
def enc (n : Nat) : List Int := encF 9 n
def encAll (zs : List Int) : List Int := zs.flatMap fun z => enc z.toNat

theorem encF_small (f n : Nat) (h : n < 128) : encF f n = [(n : Int)] := by cases f <;> simp [encF, h]
theorem encF_big (f n : Nat) (h : ¬ n < 128) : encF (f + 1) n = ((128 + n % 128 : Nat) : Int) :: encF f (n / 128) := by simp [encF, h]

theorem encF_len (f : Nat) : ∀ n, 1 ≤ (encF f n).length ∧ (encF f n).length ≤ f + 1 := by
  induction f with
  | zero => intro n; simp [encF]
  | succ f ih =>
    intro n
    by_cases h : n < 128
    · simp [encF, h]
    · rw [encF_big f n h]; have := ih (n / 128); simp; omega
theorem enc_len (n : Nat) : 1 ≤ (enc n).length ∧ (enc n).length ≤ 10 := encF_len 9 n
theorem encAll_len (zs : List Int) : (encAll zs).length ≤ 10 * zs.length := by
  induction zs with
  | nil => simp [encAll]
  | cons z zs ih =>
    have h := (enc_len z.toNat).2
    simp only [encAll, List.flatMap_cons, List.length_append, List.length_cons] at ih ⊢
    omega
theorem encAll_nil : encAll [] = [] := rfl
theorem encAll_cons (z : Int) (zs : List Int) : encAll (z :: zs) = enc z.toNat ++ encAll zs := by simp [encAll]
theorem encAll_append (a b : List Int) : encAll (a ++ b) = encAll a ++ encAll b := by simp [encAll]
theorem encAll_one (z : Int) : encAll [z] = enc z.toNat := by simp [encAll]

def Byte (l : List Int) : Prop := ∀ x ∈ l, 0 ≤ x ∧ x ≤ 255
theorem Byte.append {a b : List Int} (ha : Byte a) (hb : Byte b) : Byte (a ++ b) := by
  intro x hx
  rcases List.mem_append.1 hx with h | h
  · exact ha x h
  · exact hb x h
theorem encF_byte (f : Nat) : ∀ n, n < 128 ^ f * 256 → Byte (encF f n) := by
  induction f with
  | zero => intro n h x hx; simp [encF] at hx; subst hx; simp at h; omega
  | succ f ih =>
    intro n h
    by_cases hn : n < 128
    · rw [encF_small _ _ hn]; intro x hx; simp at hx; subst hx; omega
    · rw [encF_big f n hn]
      intro x hx
      rcases List.mem_cons.1 hx with h1 | h1
      · subst h1; omega
      · refine ih (n / 128) ?_ x h1
        rw [Nat.pow_succ] at h
        exact Nat.div_lt_of_lt_mul (by rw [Nat.mul_comm 128]; calc n < 128 ^ f * 128 * 256 := h
          _ = 128 ^ f * 256 * 128 := by rw [Nat.mul_right_comm])
theorem enc_byte (n : Nat) (h : n < 18446744073709551616) : Byte (enc n) := encF_byte 9 n (by
  have : (128 : Nat) ^ 9 * 256 = 2361183241434822606848 := by decide
  omega)
theorem encAll_byte (zs : List Int) (h : ∀ z ∈ zs, 0 ≤ z ∧ z < 18446744073709551616) : Byte (encAll zs) := by
  induction zs with
  | nil => intro x hx; simp [encAll] at hx
  | cons z zs ih =>
    rw [encAll_cons]
    have hz := h z (by simp)
    exact (enc_byte _ (by omega)).append (ih fun y hy => h y (by simp [hy]))

theorem bitLen_or_one (m : Nat) (h0 : m ≠ 0) (h : m < 18446744073709551616) : Lib.bitLen (m ||| 1) = Lib.bitLen m := by
  have e : (m ||| 1) / 2 = m / 2 := by rw [Nat.or_div_two]; simp
  have hne : m ||| 1 ≠ 0 := by intro h; have := Nat.or_eq_zero_iff.1 h; omega
  have hlt : m ||| 1 < 2 ^ 64 := Nat.or_lt_two_pow (by omega) (by omega)
  rw [Lib.bitLen_half (m ||| 1) hne hlt, Lib.bitLen_half m h0 (by omega), e]
theorem bitLen_pos (m : Nat) (h0 : m ≠ 0) (h : m < 18446744073709551616) : 1 ≤ Lib.bitLen m := by
  rw [Lib.bitLen_half m h0 (by omega)]; omega
theorem encF_bits (f : Nat) : ∀ n, n ≠ 0 → n < 18446744073709551616 → n < 128 ^ (f + 1) → (encF f n).length = (Lib.bitLen n + 6) / 7 := by
  induction f with
  | zero =>
    intro n h0 h h1
    have a1 := bitLen_pos n h0 h
    have a2 := Lib.bitLen_le n 7 (by omega) (by simpa using h1)
    simp [encF]; omega
  | succ f ih =>
    intro n h0 h h1
    by_cases hn : n < 128
    · have a1 := bitLen_pos n h0 h
      have a2 := Lib.bitLen_le n 7 (by omega) (by simpa using hn)
      rw [encF_small _ _ hn]; simp; omega
    · rw [encF_big f n hn, List.length_cons, ih (n / 128) (by omega) (by omega) (Nat.div_lt_of_lt_mul (by rw [Nat.pow_succ] at h1; omega))]
      have := Lib.bitLen_shift 7 n (by omega) (by omega)
      simp at this
      omega
/-- How many bytes a number has. -/
theorem enc_bits (n : Nat) (h : n < 18446744073709551616) : (enc n).length = (Lib.bitLen (n ||| 1) + 6) / 7 := by
  by_cases h0 : n = 0
  · subst h0; decide
  · rw [bitLen_or_one n h0 h]
    exact encF_bits 9 n h0 h (by have : (128 : Nat) ^ (9 + 1) = 1180591620717411303424 := by decide
                                 omega)

/-- What bytes tell from place i on, n being told already. -/
def rd : Nat → Nat → List Int → Int × Int × Int
  | _, _, [] => (0, 0, 4)
  | i, n, c :: r => if i = 9 ∧ 1 < c ∨ 0 < i ∧ c = 0 then (0, 0, 3) else
      if c < 128 then (((n + c.toNat % 128 * 128 ^ i : Nat) : Int), ((i + 1 : Nat) : Int), 0) else rd (i + 1) (n + c.toNat % 128 * 128 ^ i) r

theorem rd_enc (f : Nat) : ∀ (i m n : Nat) (r : List Int), i + f = 9 → n * 128 ^ i < 18446744073709551616 → (0 < i → 0 < n) →
    rd i m (encF f n ++ r) = (((m + n * 128 ^ i : Nat) : Int), ((i + (encF f n).length : Nat) : Int), 0) := by
  induction f with
  | zero =>
    intro i m n r hi hn hp
    obtain rfl : i = 9 := by omega
    have h9 : (128 : Nat) ^ 9 = 9223372036854775808 := by decide
    rw [h9] at hn
    have h2 : n < 2 := by omega
    simp only [encF, List.singleton_append, rd]
    have hp' := hp (by omega)
    rw [if_neg (by omega), if_pos (by omega)]
    have : (n : Int).toNat % 128 = n := by omega
    rw [this]
    simp
  | succ f ih =>
    intro i m n r hi hn hp
    by_cases hb : n < 128
    · rw [encF_small _ _ hb]
      simp only [List.singleton_append, rd]
      rw [if_neg (by omega), if_pos (by omega)]
      have : (n : Int).toNat % 128 = n := by omega
      rw [this]
      simp
    · rw [encF_big f n hb]
      simp only [List.cons_append, rd]
      rw [if_neg (by omega), if_neg (by omega)]
      have e1 : ((128 + n % 128 : Nat) : Int).toNat % 128 = n % 128 := by omega
      rw [e1, ih (i + 1) _ (n / 128) r (by omega) ?_ (by omega)]
      · have e2 : m + n % 128 * 128 ^ i + n / 128 * 128 ^ (i + 1) = m + n * 128 ^ i := by
          rw [Nat.pow_succ, Nat.add_assoc]
          congr 1
          have h := Nat.mod_add_div n 128
          calc n % 128 * 128 ^ i + n / 128 * (128 ^ i * 128) = (n % 128 + 128 * (n / 128)) * 128 ^ i := by
                rw [Nat.add_mul, Nat.mul_comm (128 ^ i) 128, ← Nat.mul_assoc, Nat.mul_comm (n / 128) 128]
            _ = n * 128 ^ i := by rw [h]
        rw [e2]
        simp only [List.length_cons, Prod.mk.injEq, true_and, and_true]
        omega
      · rw [Nat.pow_succ]
        have h1 : n / 128 * (128 ^ i * 128) ≤ n * 128 ^ i := by
          rw [Nat.mul_comm (128 ^ i) 128, ← Nat.mul_assoc]
          exact Nat.mul_le_mul_right _ (Nat.div_mul_le_self n 128)
        omega

theorem rd_of_enc (n : Nat) (r : List Int) (h : n < 18446744073709551616) : rd 0 0 (enc n ++ r) = ((n : Int), ((enc n).length : Int), 0) := by
  have := rd_enc 9 0 0 n r (by omega) (by simpa using h) (by omega)
  simpa [enc] using this

/-- Cut short within a number: no number. -/
theorem rd_cut (f : Nat) : ∀ (i m n k : Nat), i + f = 9 → n * 128 ^ i < 18446744073709551616 → k < (encF f n).length → rd i m ((encF f n).take k) = (0, 0, 4) := by
  induction f with
  | zero => intro i m n k hi hn hk; simp [encF] at hk; subst hk; simp [rd]
  | succ f ih =>
    intro i m n k hi hn hk
    by_cases hb : n < 128
    · rw [encF_small _ _ hb] at hk ⊢; simp at hk; subst hk; simp [rd]
    · rw [encF_big f n hb] at hk ⊢
      cases k with
      | zero => simp [rd]
      | succ k =>
        simp only [List.take_succ_cons, rd]
        rw [if_neg (by omega), if_neg (by omega)]
        refine ih (i + 1) _ (n / 128) k (by omega) ?_ (by simpa using hk)
        rw [Nat.pow_succ]
        have h1 : n / 128 * (128 ^ i * 128) ≤ n * 128 ^ i := by
          rw [Nat.mul_comm (128 ^ i) 128, ← Nat.mul_assoc]
          exact Nat.mul_le_mul_right _ (Nat.div_mul_le_self n 128)
        omega
theorem rd_of_cut (n k : Nat) (h : n < 18446744073709551616) (hk : k < (enc n).length) : rd 0 0 ((enc n).take k) = (0, 0, 4) := rd_cut 9 0 0 n k (by omega) (by simpa using h) hk

theorem room (i q d : Nat) (hi : i ≤ 8) (hd : d < 128) (h : q * 128 * 128 ^ i < 18446744073709551616) : (d + 128 * q) * 128 ^ i < 18446744073709551616 := by
  have hR : 128 ^ (i + 1) * 2 ^ (64 - 7 * (i + 1)) = 18446744073709551616 := by
    have : (128 : Nat) = 2 ^ 7 := by decide
    rw [this, ← Nat.pow_mul, ← Nat.pow_add, show 7 * (i + 1) + (64 - 7 * (i + 1)) = 64 from by omega]
  rw [Nat.pow_succ] at hR
  have hq : q < 2 ^ (64 - 7 * (i + 1)) := by
    refine Nat.lt_of_mul_lt_mul_left (a := 128 ^ i * 128) ?_
    rw [hR]
    calc 128 ^ i * 128 * q = q * 128 * 128 ^ i := by rw [Nat.mul_assoc, Nat.mul_comm]; rw [Nat.mul_comm 128 q]
      _ < _ := h
  calc (d + 128 * q) * 128 ^ i < (128 * (q + 1)) * 128 ^ i := Nat.mul_lt_mul_of_pos_right (by omega) (Nat.pow_pos (by omega))
    _ = 128 ^ i * 128 * (q + 1) := by rw [Nat.mul_comm, ← Nat.mul_assoc]
    _ ≤ 128 ^ i * 128 * 2 ^ (64 - 7 * (i + 1)) := Nat.mul_le_mul_left _ hq
    _ = _ := hR

/-- What was read has just these bytes. -/
theorem rd_back (l : List Int) : ∀ (i m : Nat) (N s : Int), i ≤ 9 → Byte l → rd i m l = (N, s, 0) →
    ∃ q k : Nat, N = ((m + q * 128 ^ i : Nat) : Int) ∧ s = ((i + k : Nat) : Int) ∧ encF (9 - i) q = l.take k ∧ (0 < i → 0 < q) ∧ q * 128 ^ i < 18446744073709551616 ∧ k ≤ l.length := by
  induction l with
  | nil => intro i m N s hi hb h; simp [rd] at h
  | cons c r ih =>
    intro i m N s hi hb h
    have hc := hb c (by simp)
    simp only [rd] at h
    by_cases h1 : i = 9 ∧ 1 < c ∨ 0 < i ∧ c = 0
    · rw [if_pos h1] at h; simp at h
    · rw [if_neg h1] at h
      by_cases h2 : c < 128
      · rw [if_pos h2] at h
        simp only [Prod.mk.injEq, and_true] at h
        have e : c.toNat % 128 = c.toNat := by omega
        refine ⟨c.toNat, 1, by rw [← h.1, e], by rw [← h.2], ?_, by omega, ?_, by simp⟩
        · rw [encF_small _ _ (by omega)]; simp; omega
        · rcases Nat.lt_or_ge i 9 with h9 | h9
          · have : (128 : Nat) ^ i ≤ 128 ^ 8 := Nat.pow_le_pow_right (by omega) (by omega)
            have e8 : (128 : Nat) ^ 8 = 72057594037927936 := by decide
            have : c.toNat * 128 ^ i ≤ 127 * 128 ^ 8 := Nat.mul_le_mul (by omega) this
            omega
          · obtain rfl : i = 9 := by omega
            have e9 : (128 : Nat) ^ 9 = 9223372036854775808 := by decide
            rw [e9]; omega
      · rw [if_neg h2] at h
        have hi9 : i < 9 := by omega
        obtain ⟨q, k, hN, hs, he, hp, hq, hk⟩ := ih (i + 1) _ N s (by omega) (fun x hx => hb x (by simp [hx])) h
        have hp' := hp (by omega)
        refine ⟨c.toNat % 128 + 128 * q, k + 1, ?_, by rw [hs]; congr 1; omega, ?_, by omega, ?_, by simpa using hk⟩
        · rw [hN, Nat.pow_succ, Nat.add_mul, Nat.add_assoc, Nat.mul_comm (128 ^ i) 128, ← Nat.mul_assoc, Nat.mul_comm q 128]
        · have e9 : 9 - i = (9 - (i + 1)) + 1 := by omega
          rw [e9, encF_big _ _ (by omega)]
          have d1 : (c.toNat % 128 + 128 * q) / 128 = q := by omega
          have d2 : ((128 + (c.toNat % 128 + 128 * q) % 128 : Nat) : Int) = c := by omega
          rw [d1, d2, he]; simp
        · rw [Nat.pow_succ, Nat.mul_comm (128 ^ i) 128, ← Nat.mul_assoc] at hq
          exact room i q _ (by omega) (by omega) hq

theorem addU_bd (a b : Int) (h1 : 0 ≤ a) (h2 : 0 ≤ b) (h3 : a < 18446744073709551616) (h4 : b < 18446744073709551616) : a ≤ addU a b ∧ b ≤ addU a b ∧ addU a b < 18446744073709551616 ∧ addU b a = addU a b := by
  unfold addU; refine ⟨?_, ?_, ?_, ?_⟩ <;> (repeat split) <;> omega
theorem subU_bd (a b : Int) (h1 : 0 ≤ a) (h2 : 0 ≤ b) : 0 ≤ subU a b ∧ subU a b ≤ a := by
  unfold subU; split <;> omega
end Go.Proofs.Ytllhhadhogbcdaa
