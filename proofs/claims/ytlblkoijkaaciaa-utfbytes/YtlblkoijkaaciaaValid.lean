/-
  Contract: is nothing broken?
-/
import Derived.Test.YtlblkoijkaaciaaDcd
import Derived.Test.YtlblkoijkaaciaaRef2
namespace Go.Proofs.Ytlblkoijkaaciaa
open Go.ChangeShapes Go.WideShapes Go.ChangeAt Go.RowKit
set_option linter.unusedVariables false

def hasB (s t : ByteArray) : Bool := decide (t.size ≤ s.size) && ((s.extract 0 t.size).toList == t.toList)

set_option maxHeartbeats 400000 in
theorem lite_any (s t : ByteArray) (w : World) (hs : s.size ≤ 1000000) (ht : t.size ≤ 1000000) : Calls Try.prog 35 #[.string s, .string t] w fun e w' => e = .returned (.bool (hasB s t)) ∧ w = w' := by
  by_cases h : t.size ≤ s.size
  · have H : Hid (hasB s t = ((s.extract 0 t.size).toList == t.toList)) := by unfold Hid hasB; simp [h]
    go_enter Try.func35, Try.ntmps35
    go_wp2
    go_ret
    exact ⟨ret_bool H.out.symm, rfl⟩
  · have H : Hid (hasB s t = false) := by unfold Hid hasB; simp [h]
    go_enter Try.func35, Try.ntmps35
    go_wp2
    go_ret
    exact ⟨ret_bool H.out.symm, rfl⟩
set_option maxHeartbeats 400000 in
theorem has_any (s t : ByteArray) (w : World) (hs : s.size ≤ 1000000) (ht : t.size ≤ 1000000) : Calls Try.prog 26 #[.string s, .string t] w fun e w' => e = .returned (.bool (hasB s t)) ∧ w = w' := by
  go_enter Try.func26, Try.ntmps26
  go_wp2_with fail
  refine (lite_any s t w hs ht).mono ?_
  rintro e w' ⟨rfl, rfl⟩
  go_wp2
  go_ret
  exact ⟨rfl, rfl⟩

theorem strOf_extract (b : List Int) (i j : Nat) : (strOf b).extract i j = strOf ((b.take j).drop i) := by
  apply ByteArray.ext
  rw [ByteArray.data_extract]
  unfold strOf
  apply Array.ext'
  simp [List.extract_eq_take_drop, List.map_take, List.map_drop, List.drop_take]
theorem has_iff (x p : List Int) (hx : Byte x) (hp : Byte p) : hasB (strOf x) (strOf p) = true ↔ p <+: x := by
  unfold hasB
  rw [strOf_size, strOf_size, strOf_extract, List.drop_zero, strOf_beq _ _ (hx.take _) hp, Bool.and_eq_true, decide_eq_true_iff, decide_eq_true_iff, List.prefix_iff_eq_take]
  constructor
  · rintro ⟨h1, h2⟩; exact h2.symm
  · intro h
    refine ⟨?_, h.symm⟩
    rw [h, List.length_take]; omega
theorem lit3 : (⟨#[239, 191, 189]⟩ : ByteArray) = strOf [239, 191, 189] := by decide

theorem full_lit {p : List Int} (hf : Full p) (h : joinV p = 65533) : p = [239, 191, 189] := by
  rw [← (full_join hf).2, h]; decide

set_option maxHeartbeats 1000000 in
theorem valid_any (A : Option Addr) (n c : Nat) (b : List Int) (w : World) (hb : Ints .u8 w A b) (hn : b.length = n) (hl : n ≤ 100000) (hy : Byte b) :
    Calls Try.prog 11 #[.slice A n c] w (Said (vld b) w) := by
  have r1 := run_strOf (P := Try.prog) w 23 9 5 Try.underlying23 Try.underlying5 Try.underlying9 A c b hb hy
  rw [hn] at r1
  have HN := hide hn
  have hsz := strOf_size b
  rw [hn] at hsz
  clear hn
  obtain ⟨s, hs⟩ : ∃ s, strOf b = s := ⟨_, rfl⟩
  rw [hs] at r1 hsz
  have HS := hide hs
  have HSZ := hide hsz
  clear hs hsz
  go_enter Try.func11, Try.ntmps11
  go_wp2
  go_loopw [4, 5] (fun _ _ wr => ∃ pos : Nat, pos ≤ n ∧ wr = w.iter s pos ∧ vld (b.drop pos) = vld b) (fun _ _ wr => n - wr.iterPos w.heap.size)
  case atStart => exact ⟨0, Nat.zero_le _, rfl, rfl⟩
  case round =>
    obtain ⟨pos, hpos, rfl, hv⟩ := hrel
    have HV := hide hv
    clear hv
    by_cases hlt : pos < n
    · have hnx : ∀ ty, (Instr.next (.pointer (some ⟨w.heap.size, 0, none⟩)) true ty).run Try.prog (w.iter s pos) = _ := fun ty => run_next_any (P := Try.prog) w s pos ty (by rw [HSZ.out]; exact hlt)
      have hne : b.drop pos ≠ [] := by
        intro e
        have := congrArg List.length e
        rw [List.length_drop, HN.out] at this; simp at this; omega
      have hd := decode_eq b hy pos (by rw [HN.out]; exact hlt)
      rw [HS.out] at hd
      rw [hd] at hnx
      clear hd
      have hpre := has_iff (b.drop pos) [239, 191, 189] (hy.drop pos) (by unfold Byte; decide)
      have hext : strOf (b.drop pos) = s.extract pos s.size := by
        rw [← HS.out, strOf_extract, strOf_size, List.take_length]
      rw [hext, ← lit3] at hpre
      have hes : (s.extract pos s.size).size ≤ 1000000 := by rw [← hext, strOf_size, List.length_drop, HN.out]; omega
      have hps : pos ≤ s.size := by rw [HSZ.out]; exact hpos
      have HP := hide hpre
      have HES := hide hes
      clear hpre hes hext
      rcases dec_two (b.drop pos) hne (hy.drop pos) with ⟨p, t, r, e1, hf, hr, hr2, e2, e3⟩ | ⟨e2, e3, e4⟩
      · rw [e2] at hnx
        have hpl : p.length ≤ n - pos := by
          have := congrArg List.length e1
          rw [List.length_drop, HN.out, List.length_append] at this; omega
        have hp0 : 0 < p.length := by cases hf <;> simp
        have HV2 : Hid (vld (b.drop (pos + p.length)) = vld b) := by
          unfold Hid
          rw [← HV.out, e3, ← List.drop_drop, e1, List.drop_left]
        by_cases h65 : r = 65533
        · have hhas : hasB (s.extract pos s.size) ⟨#[239, 191, 189]⟩ = true := HP.out.2 ⟨t, by rw [e1, full_lit hf (by rw [← hr, h65]; rfl)]⟩
          subst h65
          clear e1 e2 e3 hf hr hne
          go_wp2_with fail
          refine (has_any _ _ _ HES.out (by decide)).mono ?_
          rintro e w' ⟨rfl, rfl⟩
          rw [hhas]
          clear hhas
          go_wp2
          go_roundw
          case rel => exact ⟨pos + p.length, by omega, rfl, HV2.out⟩
          case measure => simp; omega
        · have h65' : ((r : Int) == 65533) = false := by simp; omega
          clear e1 e2 e3 hf hr hne
          go_wp2
          go_roundw
          case rel => exact ⟨pos + p.length, by omega, rfl, HV2.out⟩
          case measure => simp; omega
      · rw [e2] at hnx
        have hhas : hasB (s.extract pos s.size) ⟨#[239, 191, 189]⟩ = false := by
          cases h : hasB (s.extract pos s.size) ⟨#[239, 191, 189]⟩ with
          | false => rfl
          | true => exact absurd (HP.out.1 h) e4
        have HF : Hid (vld b = false) := by unfold Hid; rw [← HV.out, e3]
        clear e2 e3 e4 hne
        go_wp2_with fail
        refine (has_any _ _ _ HES.out (by decide)).mono ?_
        rintro e w' ⟨rfl, rfl⟩
        rw [hhas]
        clear hhas
        go_wp2
        go_ret
        exact ⟨ret_bool HF.out.symm, (Below.refl _ _).alloc (Nat.le_refl _) _⟩
    · have hnx : ∀ ty, (Instr.next (.pointer (some ⟨w.heap.size, 0, none⟩)) true ty).run Try.prog (w.iter s pos) = _ := fun ty => run_next_end (P := Try.prog) w s pos ty (by rw [HSZ.out]; exact hlt)
      have HF : Hid (vld b = true) := by unfold Hid; rw [← HV.out, List.drop_eq_nil_of_le (by rw [HN.out]; omega), vld_nil]
      go_wp2
      go_ret
      exact ⟨ret_bool HF.out.symm, (Below.refl _ _).alloc (Nat.le_refl _) _⟩
end Go.Proofs.Ytlblkoijkaaciaa
