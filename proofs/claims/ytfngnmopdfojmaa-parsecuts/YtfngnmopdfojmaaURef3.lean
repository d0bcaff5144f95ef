/-
  Contracts of the document's own answers, on: the first scalar, all of them, what is held, the bytes of all.
-/
import Derived.Test.YtfngnmopdfojmaaURef2
namespace Go.Proofs.Ytfngnmopdfojmaa
set_option maxRecDepth 100000
open Go.ChangeShapes Go.WideShapes Go.ChangeAt Go.RowKit
set_option linter.unusedVariables false

theorem rscal_any (A : Option Addr) (p : List Int) (n c : Nat) (w : World) (hp : Ints .u8 w A p) (hn : p.length = n) (hy : Byte p) (h0 : 0 < n) (h4 : n ≤ 4) : Calls Try.prog 50 #[.slice A n c] w (Both (joinV p) (wholeB p) w) := by
  subst hn
  match p, h0, h4 with
  | [a], _, _ => exact rscal1 A a c w hp hy
  | [a, b], _, _ => exact rscal2 A a b c w hp hy
  | [a, b, d], _, _ => exact rscal3 A a b d c w hp hy
  | [a, b, d, e], _, _ => exact rscal4 A a b d e c w hp hy
theorem whole_eq (c : Int) (r : List Int) (h0 : 0 ≤ c) (h : fit (c :: r) = (c :: r).length) : wholeB (c :: r) = decide ((c :: r).length = sz c) := by
  unfold wholeB
  rw [Bool.eq_iff_iff, Bool.and_eq_true, decide_eq_true_iff, decide_eq_true_iff]
  constructor
  · rintro ⟨h1, h2⟩
    obtain ⟨c', r', e, h3, _⟩ := full_fit (full_enc _ h1)
    rw [h2] at e h3
    cases e
    exact h3.symm
  · intro h1
    exact full_join (fit_full h0 (by omega) h1)

/-- The call answered with two numbers, and left all that was there. -/
def Pair (k : IntKind) (r : Int) (n : Int) (w : World) (e : Ending) (w' : World) : Prop := e = .returned (.tuple #[.int k r, .int .i64 n]) ∧ Below w.heap.size w w'

theorem take_cons {b : List Int} {c : Int} {r : List Int} (hb : b = c :: r) (k : Nat) : b.take (k + 1) = c :: r.take k := by rw [hb]; rfl

set_option maxHeartbeats 1000000 in
theorem rfirst_any (A : Option Addr) (n c : Nat) (b : List Int) (w : World) (hb : Ints .u8 w A b) (hn : b.length = n) (hc : n ≤ c) (hl : n ≤ 1000000) (by_ : Byte b) :
    Calls Try.prog 44 #[.slice A n c] w (Pair .i64 (first b).1 (first b).2 w) := by
  have HN := hide hn
  clear hn
  go_enter Try.func44, Try.ntmps44
  go_wp2
  go_loopw [4, 5, 6] (fun i _ _ wr => ∃ k : Nat, k ≤ n ∧ i = .int .i64 k ∧ k ≤ fit b ∧ (k = 0 ∨ k < sz (b.headD 0)) ∧ Below w.heap.size w wr) (fun i _ _ _ => n - (intOf i).toNat)
  case atStart => exact ⟨0, Nat.zero_le _, rfl, Nat.zero_le _, .inl rfl, Below.refl _ _⟩
  case round =>
    obtain ⟨k, hk, rfl, hkf, hks, hbel⟩ := hrel
    have HK := hide hks
    have HF := hide hkf
    clear hks hkf
    by_cases hlt : k < n
    · obtain ⟨C, off, rfl, _, _⟩ := hb.at (i := k) (by rw [HN.out]; exact hlt)
      obtain ⟨h, r, hbc⟩ : ∃ h r, b = h :: r := by
        cases b with
        | nil => have := HN.out; simp at this; omega
        | cons h r => exact ⟨h, r, rfl⟩
      have hh0 : 0 ≤ h := (by_ h (by rw [hbc]; simp)).1
      have hlen : (b.take (k + 1)).length = k + 1 := by rw [List.length_take, HN.out]; omega
      have hft := fit_take b (k + 1) (by rw [HN.out]; omega)
      have hbt : Byte (b.take (k + 1)) := by_.take _
      have hit : Ints .u8 w (some ⟨C, off, none⟩) (b.take (k + 1)) := hb.take _
      have k1 : (0 : Int) ≤ (k : Int) + 1 := by omega
      have k2 : (k : Int) + 1 ≤ (c : Int) := by omega
      have hsz : sz (b.headD 0) = sz h := by rw [hbc]; rfl
      have HKS : Hid (k = 0 ∨ k < sz h) := by have := HK.out; rwa [hsz] at this
      have HSZ := hide hsz
      have HBC := hide hbc
      have HLEN := hide hlen
      have HFT := hide hft
      clear hlen hft hsz hbc
      by_cases hbeg : begB (b.take (k + 1)) = true
      · have hfk : fit (b.take (k + 1)) = k + 1 := by have := hbeg; unfold begB at this; rw [decide_eq_true_iff, HLEN.out] at this; exact this
        have hkf1 : k + 1 ≤ fit b := HFT.out.1 hfk
        have hw : wholeB (b.take (k + 1)) = decide (k + 1 = sz h) := by
          have e := take_cons HBC.out k
          rw [e] at hfk ⊢
          have hl := HLEN.out
          rw [e] at hl
          rw [whole_eq h _ hh0 (by rw [hl]; exact hfk), hl]
        have h4 : k + 1 ≤ 4 := by
          have h1 := fit_sz h r
          have h2 := sz_le h
          rw [HBC.out] at hkf1
          omega
        have HW := hide hw
        have HKF := hide hkf1
        clear hfk hkf1 hw
        go_wp2_with fail
        refine (begins_any _ (k + 1) c (b.take (k + 1)) wr (hit.below hbel) HLEN.out (by omega) hbt (by omega)).mono ?_
        rintro e w1 ⟨rfl, hb1⟩
        rw [hbeg]
        have hbel1 := hbel.trans (hb1.mono hbel.size)
        clear hbeg hb1
        go_wp2_with fail
        refine (rscal_any _ (b.take (k + 1)) (k + 1) c w1 (hit.below hbel1) HLEN.out hbt (by omega) h4).mono ?_
        rintro e w2 ⟨rfl, hb2⟩
        have hbel2 := hbel1.trans (hb2.mono hbel1.size)
        rw [HW.out]
        by_cases hwh : k + 1 = sz h
        · have hd : decide (k + 1 = sz h) = true := by simp [hwh]
          have HFST : Hid (first b = (joinV (b.take (k + 1)), k + 1)) := by
            unfold Hid
            have h1 := fit_sz h r
            have h2 := HKF.out
            rw [HBC.out] at h2 ⊢
            have e : fit (h :: r) = k + 1 := by omega
            rw [first_whole (by omega) (by omega), e]
          have HWH := hide hwh
          clear hwh
          rw [hd]
          go_wp2
          go_ret2
          refine ⟨?_, hbel2⟩
          rw [HFST.out]
          rfl
        · have hd : decide (k + 1 = sz h) = false := by simp [hwh]
          have HWH := hide hwh
          clear hwh
          rw [hd]
          go_wp2
          go_roundw
          case rel =>
            have h1 := fit_sz h r
            have h2 := HKF.out
            have h3 := HWH.out
            rw [HBC.out] at h2
            exact ⟨k + 1, by omega, by go_num, HKF.out, .inr (by rw [HSZ.out]; omega), hbel2⟩
          case measure => simp [intOf]; omega
      · have hbeg' : begB (b.take (k + 1)) = false := by simpa using hbeg
        have hfk : fit b = k := by
          have h1 : ¬ fit (b.take (k + 1)) = k + 1 := by unfold begB at hbeg; rw [decide_eq_true_iff, HLEN.out] at hbeg; exact hbeg
          have h2 := HF.out
          have h3 : ¬ k + 1 ≤ fit b := fun q => h1 (HFT.out.2 q)
          omega
        have HFST : Hid (first b = (65533, if k = 0 then 1 else k)) := by
          unfold Hid
          have hn := HN.out
          have h3 := HKS.out
          rw [HBC.out] at hfk hn ⊢
          by_cases h0 : k = 0
          · rw [first_zero (by omega), if_pos h0]
          · rw [first_broken (by omega) (by omega) (by omega), hfk, if_neg h0]
        clear hbeg hfk
        go_wp2_with fail
        refine (begins_any _ (k + 1) c (b.take (k + 1)) wr (hit.below hbel) HLEN.out (by omega) hbt (by omega)).mono ?_
        rintro e w1 ⟨rfl, hb1⟩
        rw [hbeg']
        have hbel1 := hbel.trans (hb1.mono hbel.size)
        clear hbeg' hb1
        by_cases hk0 : k = 0
        · have HZ := hide hk0
          subst hk0
          have hne : ((0 : Int) == (n : Int)) = false := by simp; omega
          go_wp2
          go_ret2
          refine ⟨?_, hbel1⟩
          rw [HFST.out]
          rfl
        · have hne : ((k : Int) == (n : Int)) = false := by simp; omega
          have hne2 : ((k : Int) == 0) = false := by simp; omega
          have HZ := hide hk0
          go_wp2
          go_ret2
          refine ⟨?_, hbel1⟩
          rw [HFST.out, if_neg HZ.out]
          rfl
    · have hkn : k = n := by omega
      have HFST : Hid (first b = (0, 0)) := by
        unfold Hid
        have h1 := HN.out
        have h2 := HK.out
        have h3 := HF.out
        cases b with
        | nil => rfl
        | cons h r =>
          have h4 := fit_le (h :: r)
          simp only [List.headD_cons] at h2
          have hpos : 0 < (h :: r).length := by simp
          exact first_held (by omega) (by omega)
      subst hkn
      have hne : ((k : Int) == (k : Int)) = true := by simp
      go_wp2
      go_ret2
      refine ⟨?_, hbel⟩
      rw [HFST.out]
      rfl
end Go.Proofs.Ytfngnmopdfojmaa
