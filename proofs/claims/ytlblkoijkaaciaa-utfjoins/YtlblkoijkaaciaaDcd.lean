/-
  The language's own reading of a string, rune by rune, against the first scalar of bytes.
-/
import Derived.Test.YtlblkoijkaaciaaBase
import Derived.Laws.RangeAny
import Derived.Lib.OthersKept
namespace Go.Proofs.Ytlblkoijkaaciaa
open Go.ChangeShapes Go.WideShapes Go.ChangeAt Go.RowKit
set_option linter.unusedVariables false

/-- 'decode' at the head of a list of bytes. -/
def dec (x : List Int) : Nat × Nat :=
  let at' (k : Nat) : Nat := (x.getD k 0).toNat
  let cont (k : Nat) : Bool := k < x.length && at' k / 64 == 2
  let b0 := at' 0
  if b0 < 0x80 then (b0, 1)
  else if b0 / 32 == 6 && cont 1 then
    let c := (b0 % 32) * 64 + at' 1 % 64
    if c ≥ 0x80 then (c, 2) else (Utf8.runeError, 1)
  else if b0 / 16 == 14 && cont 1 && cont 2 then
    let c := (b0 % 16) * 4096 + (at' 1 % 64) * 64 + at' 2 % 64
    if c ≥ 0x800 && Utf8.valid c then (c, 3) else (Utf8.runeError, 1)
  else if b0 / 8 == 30 && cont 1 && cont 2 && cont 3 then
    let c := (b0 % 8) * 262144 + (at' 1 % 64) * 4096 + (at' 2 % 64) * 64 + at' 3 % 64
    if c ≥ 0x10000 && Utf8.valid c then (c, 4) else (Utf8.runeError, 1)
  else (Utf8.runeError, 1)

theorem strOf_size (b : List Int) : (strOf b).size = b.length := by simp [strOf, ByteArray.size]
theorem strOf_get (b : List Int) (hb : Byte b) (j : Nat) : ((strOf b).get! j).toNat = (b.getD j 0).toNat := by
  by_cases h : j < b.length
  · have hs : j < (strOf b).size := by rw [strOf_size]; exact h
    have e : (strOf b).get! j = UInt8.ofNat (b[j]).toNat := by
      simp [ByteArray.get!, strOf, h]
    rw [e, List.getD_eq_getElem?_getD, List.getElem?_eq_getElem h]
    have := hb b[j] (List.getElem_mem h)
    simp; omega
  · have e : (strOf b).get! j = default := by
      simp [ByteArray.get!, strOf, h]
    rw [e, List.getD_eq_getElem?_getD, List.getElem?_eq_none (by omega)]
    rfl
theorem decode_eq (b : List Int) (hb : Byte b) (pos : Nat) (h : pos < b.length) : Utf8.decode (strOf b) pos = dec (b.drop pos) := by
  have e : ∀ k, ((strOf b).get! (pos + k)).toNat = ((b.drop pos).getD k 0).toNat := fun k => by
    rw [strOf_get b hb, List.getD_eq_getElem?_getD, List.getD_eq_getElem?_getD, List.getElem?_drop]
  have e2 : ∀ k, decide (pos + k < (strOf b).size) = decide (k < (b.drop pos).length) := fun k => by
    rw [strOf_size, List.length_drop, decide_eq_decide]; omega
  unfold Utf8.decode dec
  simp only [e, e2]

theorem valid_iff (r : Nat) : Utf8.valid (r : Int) = isSc (r : Int) := by
  unfold Utf8.valid isSc
  rw [Bool.eq_iff_iff]
  simp
  omega
theorem dec_full (p t : List Int) (h : Full p) : dec (p ++ t) = ((joinV p).toNat, p.length) := by
  cases h with
  | @one a h0 h =>
    have : a.toNat < 128 := by omega
    simp [dec, joinV, this]
  | @two a b h h1 =>
    have q1 : ¬ a.toNat < 128 := by omega
    have q2 : a.toNat / 32 = 6 := by omega
    have q3 : b.toNat / 64 = 2 := by omega
    have q4 : 128 ≤ a.toNat % 32 * 64 + b.toNat % 64 := by omega
    simp [dec, joinV, q1, q2, q3, q4]
    omega
  | @three a b c h h1 h2 =>
    have := lo2_inv a
    have := hi2_inv a
    have q1 : ¬ a.toNat < 128 := by omega
    have q2 : ¬ a.toNat / 32 = 6 := by omega
    have q3 : b.toNat / 64 = 2 := by omega
    have q4 : c.toNat / 64 = 2 := by omega
    have q5 : a.toNat / 16 = 14 := by omega
    have q6 : 2048 ≤ a.toNat % 16 * 4096 + b.toNat % 64 * 64 + c.toNat % 64 := by omega
    have q7 : Utf8.valid ((a.toNat % 16 * 4096 + b.toNat % 64 * 64 + c.toNat % 64 : Nat) : Int) = true := by
      rw [valid_iff, isSc_iff]; omega
    have q8 : a.toNat % 16 * 4096 + b.toNat % 64 * 64 + c.toNat % 64 = ((a - 224) * 4096 + (b - 128) * 64 + c - 128).toNat := by omega
    rw [q8] at q6 q7
    have q11 : Utf8.valid (max ((a - 224) * 4096 + (b - 128) * 64 + c - 128) 0) = true := by
      rw [show max ((a - 224) * 4096 + (b - 128) * 64 + c - 128) 0 = ((((a - 224) * 4096 + (b - 128) * 64 + c - 128).toNat : Nat) : Int) by omega]; exact q7
    simp [dec, joinV, q1, q2, q3, q4, q5, q8, -Int.toNat_le, -Int.le_toNat]
    simp [q6, q11]
  | @four a b c d h h1 h2 h3 =>
    have := lo2_inv a
    have := hi2_inv a
    have q1 : ¬ a.toNat < 128 := by omega
    have q2 : ¬ a.toNat / 32 = 6 := by omega
    have q3 : b.toNat / 64 = 2 := by omega
    have q4 : c.toNat / 64 = 2 := by omega
    have q5 : ¬ a.toNat / 16 = 14 := by omega
    have q9 : d.toNat / 64 = 2 := by omega
    have q10 : a.toNat / 8 = 30 := by omega
    have q6 : 65536 ≤ a.toNat % 8 * 262144 + b.toNat % 64 * 4096 + c.toNat % 64 * 64 + d.toNat % 64 := by omega
    have q7 : Utf8.valid ((a.toNat % 8 * 262144 + b.toNat % 64 * 4096 + c.toNat % 64 * 64 + d.toNat % 64 : Nat) : Int) = true := by
      rw [valid_iff, isSc_iff]; omega
    have q8 : a.toNat % 8 * 262144 + b.toNat % 64 * 4096 + c.toNat % 64 * 64 + d.toNat % 64 = ((a - 240) * 262144 + (b - 128) * 4096 + (c - 128) * 64 + d - 128).toNat := by omega
    rw [q8] at q6 q7
    have q11 : Utf8.valid (max ((a - 240) * 262144 + (b - 128) * 4096 + (c - 128) * 64 + d - 128) 0) = true := by
      rw [show max ((a - 240) * 262144 + (b - 128) * 4096 + (c - 128) * 64 + d - 128) 0 = ((((a - 240) * 262144 + (b - 128) * 4096 + (c - 128) * 64 + d - 128).toNat : Nat) : Int) by omega]; exact q7
    simp [dec, joinV, q1, q2, q3, q4, q5, q9, q10, q8, -Int.toNat_le, -Int.le_toNat]
    simp [q6, q11]
theorem dec_cases (x : List Int) (hx : x ≠ []) (hb : Byte x) : dec x = (65533, 1) ∨ ∃ p t, x = p ++ t ∧ Full p := by
  cases x with
  | nil => exact absurd rfl hx
  | cons a r =>
    have ha := hb a (by simp)
    by_cases h1 : a ≤ 127
    · exact .inr ⟨[a], r, rfl, .one ha.1 h1⟩
    have q1 : ¬ a.toNat < 128 := by omega
    cases r with
    | nil => left; simp [dec, q1, Utf8.runeError]
    | cons b r =>
      have hb1 := hb b (by simp)
      by_cases h2 : 128 ≤ b ∧ b ≤ 191
      · have q3 : b.toNat / 64 = 2 := by omega
        by_cases h3 : 192 ≤ a ∧ a < 224
        · have q2 : a.toNat / 32 = 6 := by omega
          by_cases h4 : 194 ≤ a
          · exact .inr ⟨[a, b], r, rfl, .two ⟨h4, h3.2⟩ h2⟩
          · left
            have q4 : ¬ 128 ≤ a.toNat % 32 * 64 + b.toNat % 64 := by omega
            simp [dec, q1, q2, q3, q4, Utf8.runeError]
        · have q2 : ¬ a.toNat / 32 = 6 := by omega
          cases r with
          | nil => left; simp [dec, q1, q2, Utf8.runeError]
          | cons c r =>
            have hc1 := hb c (by simp)
            by_cases h5 : 128 ≤ c ∧ c ≤ 191
            · have q5 : c.toNat / 64 = 2 := by omega
              by_cases h6 : 224 ≤ a ∧ a < 240
              · by_cases h7 : lo2 a ≤ b ∧ b ≤ hi2 a
                · exact .inr ⟨[a, b, c], r, rfl, .three h6 h7 h5⟩
                · left
                  have q6 : a.toNat / 16 = 14 := by omega
                  have := lo2_inv a
                  have := hi2_inv a
                  have q7 : (decide (2048 ≤ a.toNat % 16 * 4096 + b.toNat % 64 * 64 + c.toNat % 64) && isSc ((a.toNat % 16 * 4096 + b.toNat % 64 * 64 + c.toNat % 64 : Nat) : Int)) = false := by
                    rw [Bool.and_eq_false_iff, decide_eq_false_iff_not]
                    unfold isSc
                    rw [decide_eq_false_iff_not]
                    omega
                  unfold dec
                  simp only [List.getD_cons_zero, List.getD_cons_succ, q1, q3, q5, q6, if_false, ge_iff_le, valid_iff, q7]
                  simp [Utf8.runeError, q2]
              · have q6 : ¬ a.toNat / 16 = 14 := by omega
                cases r with
                | nil => left; simp [dec, q1, q2, q6, Utf8.runeError]
                | cons d r =>
                  have hd1 := hb d (by simp)
                  by_cases h8 : 128 ≤ d ∧ d ≤ 191
                  · have q7 : d.toNat / 64 = 2 := by omega
                    by_cases h9 : 240 ≤ a ∧ a < 248
                    · by_cases h10 : a ≤ 244 ∧ lo2 a ≤ b ∧ b ≤ hi2 a
                      · exact .inr ⟨[a, b, c, d], r, rfl, .four ⟨h9.1, h10.1⟩ h10.2 h5 h8⟩
                      · left
                        have q8 : a.toNat / 8 = 30 := by omega
                        have := lo2_inv a
                        have := hi2_inv a
                        have q9 : (decide (65536 ≤ a.toNat % 8 * 262144 + b.toNat % 64 * 4096 + c.toNat % 64 * 64 + d.toNat % 64) && isSc ((a.toNat % 8 * 262144 + b.toNat % 64 * 4096 + c.toNat % 64 * 64 + d.toNat % 64 : Nat) : Int)) = false := by
                          rw [Bool.and_eq_false_iff, decide_eq_false_iff_not]
                          unfold isSc
                          rw [decide_eq_false_iff_not]
                          omega
                        unfold dec
                        simp only [List.getD_cons_zero, List.getD_cons_succ, q1, q3, q5, q7, q8, if_false, ge_iff_le, valid_iff, q9]
                        simp [Utf8.runeError, q2]
                        exact fun h => absurd h q6
                    · left
                      have q8 : ¬ a.toNat / 8 = 30 := by omega
                      simp [dec, q1, q2, q6, q8, Utf8.runeError]
                  · left
                    have q7 : ¬ d.toNat / 64 = 2 := by omega
                    simp [dec, q1, q2, q6, q7, Utf8.runeError]
            · left
              have q5 : ¬ c.toNat / 64 = 2 := by omega
              simp [dec, q1, q2, q5, Utf8.runeError]
      · left
        have q3 : ¬ b.toNat / 64 = 2 := by omega
        simp [dec, q1, q3, Utf8.runeError]

/-- What the language reads at the head: a whole scalar, of as many bytes; or the broken one, of one, and nothing is right. -/
theorem dec_two (x : List Int) (hx : x ≠ []) (hb : Byte x) : (∃ (p t : List Int) (r : Nat), x = p ++ t ∧ Full p ∧ (r : Int) = joinV p ∧ r ≤ 1114111 ∧ dec x = (r, p.length) ∧ vld x = vld t) ∨ (dec x = (65533, 1) ∧ vld x = false ∧ ¬ [239, 191, 189] <+: x) := by
  have hpre : ∀ p t, x = p ++ t → Full p → ∃ (p t : List Int) (r : Nat), x = p ++ t ∧ Full p ∧ (r : Int) = joinV p ∧ r ≤ 1114111 ∧ dec x = (r, p.length) ∧ vld x = vld t := by
    intro p t e hf
    obtain ⟨h1, h2⟩ := full_join hf
    have h3 := (isSc_iff _).1 h1
    refine ⟨p, t, (joinV p).toNat, e, hf, by omega, by omega, by rw [e]; exact dec_full p t hf, ?_⟩
    rw [e]
    have := vld_enc1 (joinV p) t h1
    rw [h2] at this; exact this
  by_cases hp : ∃ p t, x = p ++ t ∧ Full p
  · obtain ⟨p, t, e, hf⟩ := hp
    exact .inl (hpre p t e hf)
  · right
    have hd : dec x = (65533, 1) := by
      rcases dec_cases x hx hb with h | h
      · exact h
      · exact absurd h hp
    refine ⟨hd, ?_, ?_⟩
    · cases x with
      | nil => exact absurd rfl hx
      | cons a r =>
        by_cases h0 : fit (a :: r) = 0
        · exact vld_zero h0
        by_cases h1 : fit (a :: r) = sz a
        · exact absurd ⟨_, _, (List.take_append_drop _ _).symm, (take_full (hb a (by simp)).1 h0 h1).1⟩ hp
        · exact vld_not h1
    · rintro ⟨t, rfl⟩
      exact hp ⟨[239, 191, 189], t, rfl, .three (by omega) (by decide) (by omega)⟩
end Go.Proofs.Ytlblkoijkaaciaa
