/-
  Contracts of the document's own answers, on: all scalars, what is held, the bytes of all; numbers of runes; what is the same.
-/
import Derived.Test.YtlblkoijkaaciaaRef3
namespace Go.Proofs.Ytlblkoijkaaciaa
open Go.ChangeShapes Go.WideShapes Go.ChangeAt Go.RowKit
set_option linter.unusedVariables false

def lenOf : Value → Nat
  | .slice _ n _ => n
  | _ => 0

theorem cut_nil_ {A : Option Addr} {c q : Nat} (h : A = none → c = 0) : (if c = q then A else A.map (·.add q)) = none → c - q = 0 := by
  intro e
  by_cases hc : c = q
  · omega
  · rw [if_neg hc] at e
    cases A with
    | none => rw [h rfl]; omega
    | some a => cases e

/-- The call answered with a row of scalars and what is held, and left all that was there. -/
def CutPost (b : List Int) (w : World) (e : Ending) (w' : World) : Prop :=
  ∃ v A n c, e = .returned (.tuple #[v, .slice A n c]) ∧ Own 3 .i64 w.heap.size w w' v (cut b).1 ∧ Ints .u8 w' A (cut b).2 ∧ (cut b).2.length = n ∧ n ≤ c ∧ (A = none → c = 0)

set_option maxHeartbeats 1000000 in
theorem cut_any (A : Option Addr) (n c : Nat) (b : List Int) (w : World) (hb : Ints .u8 w A b) (hn : b.length = n) (hc : n ≤ c) (hA : A = none → c = 0) (hcm : c ≤ maxLen) (hl : n ≤ 1000000) (by_ : Byte b) :
    Calls Try.prog 21 #[.slice A n c] w (CutPost b w) := by
  unfold maxLen at hcm
  have HN := hide hn
  have HA := hide hA
  clear hn hA
  go_enter Try.func21, Try.ntmps21
  go_wp2
  go_loopw [0, 4, 5, 6] (fun s v _ _ wr => ∃ (A1 : Option Addr) (m c1 : Nat) (x acc : List Int), s = .slice A1 m c1 ∧ Ints .u8 w A1 x ∧ x.length = m ∧ m ≤ c1 ∧ (A1 = none → c1 = 0) ∧ c1 ≤ 9223372036854775807 ∧ Byte x ∧ acc.length + m ≤ n ∧
      (cut b).1 = acc ++ (cut x).1 ∧ (cut b).2 = (cut x).2 ∧ Own 3 .i64 w.heap.size w wr v acc) (fun s _ _ _ _ => lenOf s)
  case atStart => exact ⟨A, n, c, b, [], rfl, hb, HN.out, hc, HA.out, by omega, by_, by simp, by simp, rfl, Own.start (Nat.le_refl _)⟩
  case round =>
    obtain ⟨A1, m, c1, x, acc, rfl, hx, hm, hmc, hA1, hc1, bx, hacc, he1, he2, hown⟩ := hrel
    have HM := hide hm
    have HA1 := hide hA1
    have HE1 := hide he1
    have HE2 := hide he2
    clear hm hA1 he1 he2
    by_cases h0 : 0 < m
    · have hle := first_le x
      rw [HM.out] at hle
      have hrg := first_range x bx
      have hown0 := hown
      obtain ⟨r, q, hrq⟩ : ∃ r q, first x = (r, q) := ⟨_, _, rfl⟩
      rw [hrq] at hle hrg
      obtain ⟨hr0, hr1⟩ := hrg
      have HRQ := hide hrq
      clear hrq
      simp only at hle hr0 hr1
      by_cases hz : q = 0
      · subst hz
        have HC : Hid (cut x = ([], x)) := cut_held (by rw [HRQ.out])
        go_wp2_with fail
        refine (rfirst_any A1 m c1 x wr (hx.below hown.bel) HM.out hmc (by omega) bx).mono ?_
        rintro e w1 ⟨rfl, hb1⟩
        rw [HRQ.out]
        go_wp2
        go_ret2
        refine ⟨_, A1, m, c1, rfl, ?_, ?_, ?_, hmc, HA1.out⟩
        · rw [HE1.out, HC.out, List.append_nil]; exact hown.later hb1
        · rw [HE2.out, HC.out]; exact hx.below ((hown.later hb1).bel)
        · rw [HE2.out, HC.out]; exact HM.out
      · have HC : Hid (cut x = (r :: (cut (x.drop q)).1, (cut (x.drop q)).2)) := by
          have := cut_step (b := x) (by rw [HRQ.out]; exact hz)
          rw [HRQ.out] at this; exact this
        have hz' : ((q : Int) == 0) = false := by simp; omega
        have q1 : (0 : Int) ≤ (q : Int) := by omega
        have q2 : (q : Int) ≤ (m : Int) := by omega
        go_wp2_with fail
        refine (rfirst_any A1 m c1 x wr (hx.below hown.bel) HM.out hmc (by omega) bx).mono ?_
        rintro e w1 ⟨rfl, hb1⟩
        rw [HRQ.out]
        have hown1 := hown.later hb1
        go_wp2_with (at_builtin; refine wpList_push elem27 rfl _ _ rfl rfl rfl hown1 (by omega) (by omega) ?_; intro v' w2 hown2)
        go_roundw
        case rel =>
          refine ⟨_, m - q, c1 - q, x.drop q, acc ++ [r], rfl, hx.cut q c1 (by rw [HM.out]; exact hmc), by rw [List.length_drop, HM.out], by omega, cut_nil_ HA1.out, by omega, bx.drop q, ?_, ?_, ?_, hown2⟩
          · rw [List.length_append]; simp only [List.length_cons, List.length_nil]; omega
          · rw [HE1.out, HC.out]; simp
          · rw [HE2.out, HC.out]
        case measure => simp [lenOf]; omega
    · have hm0 : m = 0 := by omega
      have HX : Hid (x = []) := by unfold Hid; exact List.eq_nil_of_length_eq_zero (by rw [HM.out]; exact hm0)
      clear hm0
      have HC : Hid (cut x = ([], [])) := by unfold Hid; rw [HX.out]; exact cut_nil
      have hgt : decide ((0 : Int) < (m : Int)) = false := by simp; omega
      go_wp2
      go_ret2
      refine ⟨_, none, 0, 0, rfl, ?_, .inl ?_, ?_, Nat.le_refl _, fun _ => rfl⟩
      · rw [HE1.out, HC.out, List.append_nil]; exact hown
      · rw [HE2.out, HC.out]
      · rw [HE2.out, HC.out]; rfl

set_option maxHeartbeats 1000000 in
theorem rrunes_any (A : Option Addr) (n c : Nat) (b : List Int) (w : World) (hb : Ints .u8 w A b) (hn : b.length = n) (hc : n ≤ c) (hA : A = none → c = 0) (hcm : c ≤ maxLen) (hl : n ≤ 1000000) (by_ : Byte b) :
    Calls Try.prog 19 #[.slice A n c] w (Made 3 .i64 w (runes b)) := by
  have hlc := cut_len b
  rw [hn] at hlc
  have HN := hide hn
  have HA := hide hA
  clear hn hA
  go_enter Try.func19, Try.ntmps19
  go_wp2_with fail
  refine (cut_any A n c b w hb HN.out hc HA.out hcm hl by_).mono ?_
  rintro e w1 ⟨v, A1, m, c1, rfl, hown, hi, hm, hmc, hA1⟩
  have HM := hide hm
  have HA1 := hide hA1
  clear hm hA1
  by_cases h0 : 0 < m
  · have HR : Hid (runes b = (cut b).1 ++ [65533]) := by
      unfold Hid runes
      rw [if_neg]
      intro h
      have := HM.out
      rw [h] at this
      simp at this; omega
    go_wp2_with (at_builtin; refine wpList_push elem27 rfl _ _ rfl rfl rfl hown (by omega) (by omega) ?_; intro v' w2 hown2)
    go_ret
    exact ⟨_, rfl, by rw [HR.out]; exact hown2⟩
  · have HR : Hid (runes b = (cut b).1) := by
      unfold Hid runes
      rw [if_pos, List.append_nil]
      exact List.eq_nil_of_length_eq_zero (by rw [HM.out]; omega)
    have hgt : decide ((0 : Int) < (m : Int)) = false := by simp; omega
    go_wp2
    go_ret
    exact ⟨_, rfl, by rw [HR.out]; exact hown⟩

set_option maxHeartbeats 1000000 in
theorem all_any (a : Option Addr) (len cap : Nat) (zs : List Int) (w : World) (h : Ints .i64 w a zs) (hl : zs.length = len) (hlen : len ≤ 1000) :
    Calls Try.prog 9 #[.slice a len cap] w (Made 5 .u8 w (encA zs)) := by
  have HL := hide hl
  clear hl
  go_enter Try.func9, Try.ntmps9
  go_wp2
  go_loopw [3, 4] (fun v i wr => ∃ k : Nat, k ≤ len ∧ i = .int .i64 k ∧ Own 5 .u8 w.heap.size w wr v (encA (zs.take k)))
    (fun _ i _ => len - (intOf i).toNat)
  case atStart => exact ⟨0, Nat.zero_le _, rfl, Own.start (Nat.le_refl _)⟩
  case round =>
    obtain ⟨k, hk, rfl, hown⟩ := hrel
    by_cases hlt : k < len
    · obtain ⟨b, off, rfl, hc, hb⟩ := h.at (i := k) (by rw [HL.out]; exact hlt)
      obtain ⟨r, hr⟩ : ∃ r, zs.getD k 0 = r := ⟨_, rfl⟩
      have hcx : wr.cell? ⟨b, off + k, none⟩ = some (.int .i64 r) := by rw [← hr]; exact (hown.bel.cell (by exact hb)).trans hc
      have hl1 := encA_len (zs.take k)
      have hl2 := encS_len (fix r)
      have hl3 : (zs.take k).length ≤ k := List.length_take_le _ _
      have HT : Hid (encA (zs.take (k + 1)) = encA (zs.take k) ++ encS (fix r)) := by
        unfold Hid
        rw [List.take_succ_eq_append_getElem (by rw [HL.out]; exact hlt), encA_append, encA_one]
        rw [List.getD_eq_getElem?_getD, List.getElem?_eq_getElem (by rw [HL.out]; exact hlt)] at hr
        simp at hr
        rw [hr]
      clear hr hc
      go_wp2_with fail
      refine (rbytes_any r wr).mono ?_
      rintro e w1 ⟨v, rfl, hv⟩
      obtain ⟨A, c, rfl, hi, hc, hc0⟩ := hv.form
      have hown1 := hown.later hv.bel
      go_wp2_with (at_builtin; refine wpList_cat elem23 rfl _ _ rfl rfl rfl hown1 hi rfl hc0 (by omega) (by omega) ?_; intro v' w2 hown2)
      go_roundw
      case rel => exact ⟨k + 1, by omega, by go_num, by rw [HT.out]; exact hown2⟩
      case measure => simp [intOf]; omega
    · go_wp2
      go_ret
      exact ⟨_, rfl, by rw [List.take_of_length_le (by rw [HL.out]; omega)] at hown; exact hown⟩

theorem take_snoc (zs : List Int) (k : Nat) (r : Int) (hk : k < zs.length) (hr : zs.getD k 0 = r) : zs.take (k + 1) = zs.take k ++ [r] := by
  rw [List.take_succ_eq_append_getElem hk]
  rw [List.getD_eq_getElem?_getD, List.getElem?_eq_getElem hk] at hr
  simp at hr
  rw [hr]

/-- Numbers that a rune may be. -/
def Rn (zs : List Int) : Prop := ∀ x ∈ zs, -2147483648 ≤ x ∧ x ≤ 2147483647
theorem Rn.at {zs : List Int} (h : Rn zs) (k : Nat) (hk : k < zs.length) : -2147483648 ≤ zs.getD k 0 ∧ zs.getD k 0 ≤ 2147483647 := by
  have hm : zs.getD k 0 ∈ zs := by
    rw [List.getD_eq_getElem?_getD, List.getElem?_eq_getElem hk]
    exact List.getElem_mem hk
  exact h _ hm

set_option maxHeartbeats 1000000 in
theorem ints_any (a : Option Addr) (len cap : Nat) (zs : List Int) (w : World) (h : Ints .i32 w a zs) (hl : zs.length = len) (hlen : len ≤ 1000) (hz : Rn zs) :
    Calls Try.prog 10 #[.slice a len cap] w (Made 3 .i64 w zs) := by
  have HL := hide hl
  clear hl
  go_enter Try.func10, Try.ntmps10
  go_wp2
  go_loopw [3, 4] (fun v i wr => ∃ k : Nat, k ≤ len ∧ i = .int .i64 k ∧ Own 3 .i64 w.heap.size w wr v (zs.take k))
    (fun _ i _ => len - (intOf i).toNat)
  case atStart => exact ⟨0, Nat.zero_le _, rfl, Own.start (Nat.le_refl _)⟩
  case round =>
    obtain ⟨k, hk, rfl, hown⟩ := hrel
    by_cases hlt : k < len
    · obtain ⟨b, off, rfl, hc, hb⟩ := h.at (i := k) (by rw [HL.out]; exact hlt)
      have hb2 := hz.at k (by rw [HL.out]; exact hlt)
      obtain ⟨r, hr⟩ : ∃ r, zs.getD k 0 = r := ⟨_, rfl⟩
      have hcx : wr.cell? ⟨b, off + k, none⟩ = some (.int .i32 r) := by rw [← hr]; exact (hown.bel.cell (by exact hb)).trans hc
      rw [hr] at hb2
      obtain ⟨b3, b4⟩ := hb2
      have HT := hide (take_snoc zs k r (by rw [HL.out]; exact hlt) hr)
      have hl3 : (zs.take k).length ≤ k := List.length_take_le _ _
      clear hr hc
      go_wp2_with (at_builtin; refine wpList_push elem27 rfl _ _ rfl rfl rfl hown (by omega) (by omega) ?_; intro v' w2 hown2)
      go_roundw
      case rel => exact ⟨k + 1, by omega, by go_num, by rw [HT.out]; exact hown2⟩
      case measure => simp [intOf]; omega
    · go_wp2
      go_ret
      exact ⟨_, rfl, by rw [List.take_of_length_le (by rw [HL.out]; omega)] at hown; exact hown⟩

set_option maxHeartbeats 1000000 in
theorem same_yes (A C : Option Addr) (n c d : Nat) (x : List Int) (w : World) (ha : Ints .i32 w A x) (hb : Ints .i64 w C x) (hn : x.length = n) (hl : n ≤ 1000000) (hz : Rn x) :
    Calls Try.prog 15 #[.slice A n c, .slice C n d] w (Said true w) := by
  have HN := hide hn
  clear hn
  go_enter Try.func15, Try.ntmps15
  go_wp2
  go_loopw [5] (fun i wr => ∃ k : Nat, k ≤ n ∧ i = .int .i64 k ∧ Below w.heap.size w wr) (fun i _ => n - (intOf i).toNat)
  case atStart => exact ⟨0, Nat.zero_le _, rfl, Below.refl _ _⟩
  case round =>
    obtain ⟨k, hk, rfl, hbel⟩ := hrel
    by_cases hlt : k < n
    · obtain ⟨b, off, rfl, hc, hb1⟩ := ha.at (i := k) (by rw [HN.out]; exact hlt)
      obtain ⟨b2, off2, rfl, hc2, hb2⟩ := hb.at (i := k) (by rw [HN.out]; exact hlt)
      have hb3 := hz.at k (by rw [HN.out]; exact hlt)
      rw [← hbel.cell (p := ⟨b, off + k, none⟩) hb1] at hc
      rw [← hbel.cell (p := ⟨b2, off2 + k, none⟩) hb2] at hc2
      generalize x.getD k 0 = r at hc hc2 hb3
      obtain ⟨b5, b4⟩ := hb3
      have hq : (r != r) = false := by simp
      go_wp2
      go_quiet (fail)
      go_wp2
      go_roundw
      case rel => exact ⟨k + 1, by omega, by go_num, hbel.drewN _⟩
      case measure => simp [intOf]; omega
    · go_wp2
      go_ret
      exact ⟨rfl, hbel⟩

set_option maxHeartbeats 400000 in
theorem bsame_yes (A B : Option Addr) (n c d : Nat) (bs : List Int) (w : World) (ha : Ints .u8 w A bs) (hb : Ints .u8 w B bs) (hn : bs.length = n) (hy : Byte bs) :
    Calls Try.prog 8 #[.slice A n c, .slice B n d] w fun e w' => e = .returned (.bool true) ∧ w = w' := by
  have r1 := run_strOf (P := Try.prog) w 23 9 5 Try.underlying23 Try.underlying5 Try.underlying9 A c bs ha hy
  have r2 := run_strOf (P := Try.prog) w 23 9 5 Try.underlying23 Try.underlying5 Try.underlying9 B d bs hb hy
  rw [hn] at r1 r2
  generalize strOf bs = s at r1 r2
  clear hn ha hb hy
  go_enter Try.func8, Try.ntmps8
  go_wp2
  go_ret
  simp
end Go.Proofs.Ytlblkoijkaaciaa
