/-
  Contracts and plain mathematics of RnPutC, RnWrong, RnBytes, RnByte, LNew, BKnown, RnKnown, RnRef1.
-/
import Derived.Test.YtcbdokocnjoilaaGreatDoorH6
import Derived.Test.YtcbdokocnjoilaaGreatDoorH5
import Derived.Test.YtcbdokocnjoilaaGreatDoorH3
import Derived.Test.YtcbdokocnjoilaaGreatDoorH2
import Derived.Laws.EntriesVeiled
import Derived.Test.YtcbdokocnjoilaaGreatDoorH1
import Derived.Lib.SliceRun
import Derived.Test.YtcbdokocnjoilaaGreatDoorH4
namespace Go.Proofs.YtcbdokocnjoilaaGreatDoor
set_option maxRecDepth 100000
set_option linter.unusedVariables false
set_option maxHeartbeats 8000000
section
open Go.ChangeShapes Go.WideShapes Go.ChangeAt Go.RowKit
/-- Runes in a block of their own type. -/
def Rk (w : World) (a : Option Addr) (zs : List Int) : Prop := zs = [] ∨ ∃ b off cur, a = some ⟨b, off, none⟩ ∧ w.heap[b]? = some (.cells cur 21 (0, 0)) ∧ ∀ i, i < zs.length → w.cell? ⟨b, off + i, none⟩ = some (.int .i32 (zs.getD i 0))
theorem Rk.ints {w : World} {a : Option Addr} {zs : List Int} (h : Rk w a zs) : Ints .i32 w a zs := by
  rcases h with h | ⟨b, off, cur, ha, -, hc⟩
  · exact .inl h
  · exact .inr ⟨b, off, ha, hc⟩
theorem cell_heap {w w' : World} {b o : Nat} (h : w'.heap[b]? = w.heap[b]?) : w'.cell? ⟨b, o, none⟩ = w.cell? ⟨b, o, none⟩ := by simp [World.cell?, h]
theorem Ap.rk {B p : Nat} {w w' : World} {v : Value} {a : Option Addr} {zs : List Int} (h : Ap B p w w') (hp : Whole w p 36 [v]) (hr : Rk w a zs) : Rk w' a zs := by
  rcases hr with hr | ⟨b, off, cur, ha, hh, hc⟩
  · exact .inl hr
  · have e : w'.heap[b]? = some (.cells cur 21 (0, 0)) := h.oth b _ hh (by
      rintro rfl
      rw [show w.heap[b]? = _ from hp] at hh
      simp at hh) (by intro cur fz q; simp at q)
    exact .inr ⟨b, off, cur, ha, e, fun i hi => (cell_heap (e.trans hh.symm)).trans (hc i hi)⟩
theorem Pt.whole {B p : Nat} {w : World} {bs : List Int} (h : Pt B p w bs) : ∃ v, Whole w p 36 [v] := by
  obtain ⟨v, hv, -⟩ := h.ex
  exact ⟨v, hv⟩
theorem Ap.rk2 {B p : Nat} {w w' : World} {bs : List Int} {a : Option Addr} {zs : List Int} (h : Ap B p w w') (hp : Pt B p w bs) (hr : Rk w a zs) : Rk w' a zs := by
  obtain ⟨v, hv⟩ := hp.whole
  exact h.rk hv hr
theorem Rk.below {w w' : World} {a : Option Addr} {zs : List Int} (h : Rk w a zs) (hb : Below w.heap.size w w') : Rk w' a zs := by
  rcases h with h | ⟨b, off, cur, ha, hh, hc⟩
  · exact .inl h
  · have e : w'.heap[b]? = w.heap[b]? := hb.block b (Array.getElem?_eq_some_iff.1 hh).1
    exact .inr ⟨b, off, cur, ha, e.trans hh, fun i hi => (cell_heap e).trans (hc i hi)⟩
/-- A row of runes that has one at least, and what is behind the first. -/
theorem rk_tail {B : Nat} {w wr : World} {v : Value} {x : Int} {zs : List Int} (h : Own 21 .i32 B w wr v (x :: zs)) : ∃ g cap, v = .slice (some ⟨g, 0, none⟩) (zs.length + 1) cap ∧ zs.length + 1 ≤ cap ∧ Rk wr (some ⟨g, 1, none⟩) zs := by
  rcases h.own.2 with ⟨rfl, h0⟩ | ⟨g, cap, cur, rfl, hB, hh, hc, hm, _, _⟩
  · simp at h0
  · refine ⟨g, cap, rfl, hc, .inr ⟨g, 1, cur, rfl, hh, fun i hi => ?_⟩⟩
    rw [Nat.add_comm 1 i, h.own.cellAt (i + 1) (by simp; omega)]
    simp [List.getElem?_eq_getElem hi]
theorem runes_marks (r m n : Int) (d f g b : Nat) (h : d = 1 ∨ d = 2) : runesC ⟨r, m, n, d, ⟨f, g, b⟩⟩ = r :: marksOf ⟨r, m, n, d, ⟨f, g, b⟩⟩ := by
  unfold runesC marksOf
  rw [if_pos (by unfold bearsC; simp; exact h)]
  simp
theorem nums_0 (r m n : Int) (f g b : Nat) : encAll (cellNums ⟨r, m, n, 0, ⟨f, g, b⟩⟩) = enc 0 ++ enc (numN ⟨f, g, b⟩).toNat := by unfold cellNums; simp [encAll]
theorem nums_w (r m n : Int) (d f g b : Nat) (h : ¬ d = 0) : encAll (cellNums ⟨r, m, n, d, ⟨f, g, b⟩⟩) = enc d ++ enc (numN ⟨f, g, b⟩).toNat ++ enc r.toNat ++ enc (marksOf ⟨r, m, n, d, ⟨f, g, b⟩⟩).length ++ encAll (marksOf ⟨r, m, n, d, ⟨f, g, b⟩⟩) := by
  unfold cellNums; simp [h, encAll]
theorem marks_bd (r m n : Int) (d f g b : Nat) (hm : 0 ≤ m ∧ m ≤ 1114111) (hn : 0 ≤ n ∧ n ≤ 1114111) : (marksOf ⟨r, m, n, d, ⟨f, g, b⟩⟩).length ≤ 2 ∧ ∀ x ∈ marksOf ⟨r, m, n, d, ⟨f, g, b⟩⟩, 0 ≤ x ∧ x ≤ 1114111 := by
  unfold marksOf
  simp only
  constructor
  · split <;> split <;> simp
  · intro x hx
    split at hx <;> split at hx <;> simp at hx
    · rw [hx]; exact hn
    · rw [hx]; exact hm
    · rcases hx with rfl | rfl
      · exact hm
      · exact hn
/-- The call put these numbers, and left all else. -/
def Puts (B p : Nat) (w : World) (bs : List Int) (e : Ending) (w' : World) : Prop := e = .returned (.tuple #[]) ∧ Pt B p w' bs ∧ Ap B p w w'

theorem putcell_any (B p : Nat) (bs : List Int) (r m n : Int) (d f g b : Nat) (w : World) (h : Pt B p w bs) (hc : rightC ⟨r, m, n, d, ⟨f, g, b⟩⟩ = true) (hl : bs.length ≤ 400000) (hB : B ≤ w.heap.size) :
    Calls Tryz.prog 59 #[.func (.func 56) #[] #[.pointer (some ⟨p, 0, none⟩)], .agg #[.int .i32 r, .int .i32 m, .int .i32 n, .int .u8 (d : Int), .int .u8 (f : Int), .int .u8 (g : Int), .int .u8 (b : Int)]] w (Puts B p w (bs ++ encAll (cellNums ⟨r, m, n, d, ⟨f, g, b⟩⟩))) := by
  obtain ⟨hp, hf⟩ := right_facts hc
  obtain ⟨k0, k1⟩ := numN_bd (p := ⟨f, g, b⟩) hp
  obtain ⟨NN, hNN⟩ : ∃ NN : Nat, numN ⟨f, g, b⟩ = (NN : Int) := ⟨(numN ⟨f, g, b⟩).toNat, by omega⟩
  have HNN := hide hNN
  have hNb : NN ≤ 16927 := by omega
  obtain ⟨W0, hW0⟩ : ∃ W0, w.alloc (.cells #[.int .i32 r, .int .i32 m, .int .i32 n, .int .u8 (d : Int), .int .u8 (f : Int), .int .u8 (g : Int), .int .u8 (b : Int)] 105) = W0 := ⟨_, rfl⟩
  have hbw : Below w.heap.size w W0 := by rw [← hW0]; exact (Below.refl _ _).alloc (Nat.le_refl _) _
  have HC0 : Hid (Whole W0 w.heap.size 105 [.int .i32 r, .int .i32 m, .int .i32 n, .int .u8 (d : Int), .int .u8 (f : Int), .int .u8 (g : Int), .int .u8 (b : Int)]) := by unfold Hid; rw [← hW0]; exact Whole.new w 105 [.int .i32 r, .int .i32 m, .int .i32 n, .int .u8 (d : Int), .int .u8 (f : Int), .int .u8 (g : Int), .int .u8 (b : Int)]
  have HQ : Hid (w.heap.size ≠ p) := fun q => by have := h.lt; omega
  have HP0 := hide (h.later hbw)
  have HA0 : Hid (Ap B p w W0) := Ap.of_below hbw hB
  have HW0 := hide hW0
  have e1 := (enc_len d).2
  have e2 := (enc_len NN).2
  have hd : d ≤ 2 := by
    rcases hf with ⟨q, -⟩ | ⟨q, -⟩
    · simp only at q; omega
    · simp only at q; omega
  clear hW0 h hbw hNN k0 k1
  obtain ⟨c0, c1, c2, c3, c4, c5, c6, -⟩ := cells7 HC0.out
  have l0 := HC0.out.lt
  by_cases hd0 : d = 0
  · have HE : Hid (encAll (cellNums ⟨r, m, n, d, ⟨f, g, b⟩⟩) = enc d ++ enc (numN ⟨f, g, b⟩).toNat) := by unfold Hid; rw [hd0]; exact nums_0 r m n f g b
    have HD0 : Hid (((d : Int) == 0) = true) := by unfold Hid; simp; omega
    clear hf hd0
    go_enter Tryz.func59, Tryz.ntmps59
    go_wp2_with fail
    rw [HW0.out]
    refine (runput_any B p bs d W0 HP0.out (by omega) (by omega)).mono ?_
    rintro e w1 ⟨rfl, hp1, ha1⟩
    have HP1 := hide hp1
    have HA1 := hide (HA0.out.trans ha1)
    have HC1 := hide (ha1.whole HC0.out HQ.out (by decide))
    clear hp1 ha1 c0 c1 c2 c3 c4 c5 c6 l0
    obtain ⟨c0, c1, c2, c3, c4, c5, c6, -⟩ := cells7 HC1.out
    have l1 := HC1.out.lt
    go_wp2_with fail
    refine (number_any f g b _).mono ?_
    rintro e w2 ⟨rfl, hb2⟩
    rw [HNN.out]
    have HP2 := hide (HP1.out.later hb2)
    have HA2 := hide (HA1.out.trans (Ap.of_below hb2 (Nat.le_trans hB HA1.out.size)))
    have HC2 := hide (HC1.out.later hb2)
    clear hb2
    go_wp2_with fail
    refine (runput_any B p (bs ++ enc d) NN w2 HP2.out (by omega) (by rw [List.length_append]; omega)).mono ?_
    rintro e w3 ⟨rfl, hp3, ha3⟩
    have HP3 := hide hp3
    have HA3 := hide (HA2.out.trans ha3)
    have HC3 := hide (ha3.whole HC2.out HQ.out (by decide))
    clear hp3 ha3 c0 c1 c2 c3 c4 c5 c6 l1
    obtain ⟨c0, c1, c2, c3, c4, c5, c6, -⟩ := cells7 HC3.out
    have l3 := HC3.out.lt
    have hdz := HD0.out
    go_wp2
    refine bodyPost_ret (results_none rfl _ _ _) rfl ⟨rfl, ?_, HA3.out⟩
    rw [HE.out, HNN.out, Int.toNat_natCast, ← List.append_assoc]
    exact HP3.out
  · obtain ⟨hw, hr, h0, hm, hn⟩ : (d = 1 ∨ d = 2) ∧ (0 ≤ r ∧ r ≤ 1114111) ∧ (m = 0 → n = 0) ∧ (0 ≤ m ∧ m ≤ 1114111) ∧ (0 ≤ n ∧ n ≤ 1114111) := by
      rcases hf with ⟨q, -⟩ | q
      · exact absurd q hd0
      · exact q
    have HE := hide (nums_w r m n d f g b hd0)
    have HR := hide (runes_marks r m n d f g b hw)
    obtain ⟨hml, hmb⟩ := marks_bd r m n d f g b hm hn
    obtain ⟨ms, hms⟩ : ∃ ms, marksOf ⟨r, m, n, d, ⟨f, g, b⟩⟩ = ms := ⟨_, rfl⟩
    rw [hms] at HE HR hml hmb
    obtain ⟨R0, hR0⟩ : ∃ R0 : Nat, r = (R0 : Int) := ⟨r.toNat, by omega⟩
    have HR0 := hide hR0
    have hR0b : R0 ≤ 1114111 := by omega
    have hML : Hid (∀ x ∈ ms, 0 ≤ x ∧ x ≤ 1114111) := hmb
    obtain ⟨M, hM⟩ : ∃ M, ms.length = M := ⟨_, rfl⟩
    rw [hM] at hml
    have HM := hide hM
    have e3 := (enc_len R0).2
    have e4 := (enc_len M).2
    have hdz : ((d : Int) == 0) = false := by simp; omega
    have hw0 := hw
    obtain ⟨hr1, hr2⟩ := hr
    clear hm hn h0 hms hR0 hmb hM hc hf hd0 hw
    go_enter Tryz.func59, Tryz.ntmps59
    go_wp2_with fail
    rw [HW0.out]
    refine (runput_any B p bs d W0 HP0.out (by omega) (by omega)).mono ?_
    rintro e w1 ⟨rfl, hp1, ha1⟩
    have HP1 := hide hp1
    have HA1 := hide (HA0.out.trans ha1)
    have HC1 := hide (ha1.whole HC0.out HQ.out (by decide))
    clear hp1 ha1 c0 c1 c2 c3 c4 c5 c6 l0
    obtain ⟨c0, c1, c2, c3, c4, c5, c6, -⟩ := cells7 HC1.out
    have l1 := HC1.out.lt
    go_wp2_with fail
    refine (number_any f g b _).mono ?_
    rintro e w2 ⟨rfl, hb2⟩
    rw [HNN.out]
    have HP2 := hide (HP1.out.later hb2)
    have HA2 := hide (HA1.out.trans (Ap.of_below hb2 (Nat.le_trans hB HA1.out.size)))
    have HC2 := hide (HC1.out.later hb2)
    clear hb2
    go_wp2_with fail
    refine (runput_any B p (bs ++ enc d) NN w2 HP2.out (by omega) (by rw [List.length_append]; omega)).mono ?_
    rintro e w3 ⟨rfl, hp3, ha3⟩
    have HP3 := hide hp3
    have HA3 := hide (HA2.out.trans ha3)
    have HC3 := hide (ha3.whole HC2.out HQ.out (by decide))
    clear hp3 ha3 c0 c1 c2 c3 c4 c5 c6 l1
    obtain ⟨c0, c1, c2, c3, c4, c5, c6, -⟩ := cells7 HC3.out
    have l3 := HC3.out.lt
    go_wp2_with fail
    refine (runes_any r m n d f g b _).mono ?_
    rintro e w4 ⟨v4, rfl, hv4⟩
    rw [HR.out] at hv4
    obtain ⟨g4, k4, hv, hk4, hrk⟩ := rk_tail hv4
    rw [HM.out] at hv hk4
    subst hv
    have HP4 := hide (HP3.out.later hv4.bel)
    have HA4 := hide (HA3.out.trans (Ap.of_below hv4.bel (Nat.le_trans hB HA3.out.size)))
    have HC4 := hide (HC3.out.later hv4.bel)
    clear hv4 c0 c1 c2 c3 c4 c5 c6 l3
    obtain ⟨c0, c1, c2, c3, c4, c5, c6, -⟩ := cells7 HC4.out
    have l4 := HC4.out.lt
    have HPR : Hid (w4 = w4) := rfl
    by_cases hk1 : k4 = 1
    · subst hk1
      obtain rfl : M = 0 := by omega
      have HN : Hid (ms = []) := List.eq_nil_of_length_eq_zero HM.out
      clear hrk
      go_wp2_with fail
      rw [HR0.out]
      refine (runput_any B p (bs ++ enc d ++ enc NN) R0 w4 HP4.out (by omega) (by simp only [List.length_append]; omega)).mono ?_
      rintro e w5 ⟨rfl, hp5, ha5⟩
      have HP5 := hide hp5
      have HA5 := hide (HA4.out.trans ha5)
      clear hp5 ha5 c0 c1 c2 c3 c4 c5 c6 l4
      go_wp2_with fail
      refine (runput_any B p (bs ++ enc d ++ enc NN ++ enc R0) 0 w5 HP5.out (by omega) (by simp only [List.length_append]; omega)).mono ?_
      rintro e w6 ⟨rfl, hp6, ha6⟩
      have HP6 := hide hp6
      have HA6 := hide (HA5.out.trans ha6)
      clear hp6 ha6
      go_wp2
      go_loopw [34] (fun i wr => i = .int .i64 0 ∧ wr = w6) (fun _ _ => 0)
      case atStart => exact ⟨rfl, rfl⟩
      case round =>
        obtain ⟨rfl, rfl⟩ := hrel
        go_wp2
        refine bodyPost_end (v := .tuple #[]) (by simp [results, Tryz.results59]) rfl ⟨rfl, ?_, HA6.out⟩
        rw [HE.out, HN.out, HNN.out, HR0.out]
        simpa [encAll] using HP6.out
    · have HK := hide hrk
      clear hrk
      go_wp2_with fail
      rw [HR0.out]
      refine (runput_any B p (bs ++ enc d ++ enc NN) R0 w4 HP4.out (by omega) (by simp only [List.length_append]; omega)).mono ?_
      rintro e w5 ⟨rfl, hp5, ha5⟩
      have HP5 := hide hp5
      have HA5 := hide (HA4.out.trans ha5)
      have HK5 := hide (ha5.rk2 HP4.out HK.out)
      clear hp5 ha5 c0 c1 c2 c3 c4 c5 c6 l4
      go_wp2_with fail
      refine (runput_any B p (bs ++ enc d ++ enc NN ++ enc R0) M w5 HP5.out (by omega) (by simp only [List.length_append]; omega)).mono ?_
      rintro e w6 ⟨rfl, hp6, ha6⟩
      have HP6 := hide hp6
      have HA6 := hide (HA5.out.trans ha6)
      have HK6 := hide (ha6.rk2 HP5.out HK5.out)
      clear hp6 ha6
      go_wp2
      go_loopw [34] (fun i wr => ∃ k : Nat, k ≤ M ∧ i = .int .i64 k ∧ Hid (Pt B p wr (bs ++ enc d ++ enc NN ++ enc R0 ++ enc M ++ encAll (ms.take k))) ∧ Hid (Ap B p w wr) ∧ Hid (Rk wr (some ⟨g4, 1, none⟩) ms)) (fun i _ => M - (intOf i).toNat)
      case atStart => exact ⟨0, Nat.zero_le _, rfl, by unfold Hid; simpa [encAll] using HP6.out, HA6, HK6⟩
      case round =>
        obtain ⟨k, hk, rfl, HPk, HAk, HKk⟩ := hrel
        by_cases hlt : k < M
        · obtain ⟨b7, o7, e7, hc7, hb7⟩ := HKk.out.ints.at (i := k) (by rw [HM.out]; exact hlt)
          cases e7
          obtain ⟨x, hx⟩ : ∃ x, ms.getD k 0 = x := ⟨_, rfl⟩
          have hxb := hML.out x (by rw [← hx]; exact getD_mem ms k (by rw [HM.out]; exact hlt))
          have HT := hide (take_snoc ms k x (by rw [HM.out]; exact hlt) hx)
          rw [hx] at hc7
          obtain ⟨X, rfl⟩ : ∃ X : Nat, x = (X : Int) := ⟨x.toNat, by omega⟩
          clear hx
          have hel := encAll_len (ms.take k)
          rw [List.length_take] at hel
          go_wp2_with fail
          refine (runput_any B p _ X wr HPk.out (by omega) (by simp only [List.length_append]; omega)).mono ?_
          rintro e w8 ⟨rfl, hp8, ha8⟩
          have HP8 := hide hp8
          have HA8 := hide (HAk.out.trans ha8)
          have HK8 := hide (ha8.rk2 HPk.out HKk.out)
          clear hp8 ha8
          go_wp2
          go_roundw
          case rel => exact ⟨k + 1, by omega, by go_num, by
            rw [HT.out, encAll_append, encAll_one, Int.toNat_natCast, ← List.append_assoc]
            exact HP8, HA8, HK8⟩
          case measure => simp [intOf]; omega
        · go_wp2
          refine bodyPost_end (v := .tuple #[]) (by simp [results, Tryz.results59]) rfl ⟨rfl, ?_, HAk.out⟩
          have := HPk.out
          rw [List.take_of_length_le (by rw [HM.out]; omega)] at this
          rw [HE.out, HNN.out, HR0.out, HM.out]
          simpa using this
theorem runwrong_any (r m n : Int) (d f g b : Nat) (hd : d < 256) (w : World) (hS : Spans w) : Calls Tryz.prog 53 #[.agg #[.int .i32 r, .int .i32 m, .int .i32 n, .int .u8 (d : Int), .int .u8 (f : Int), .int .u8 (g : Int), .int .u8 (b : Int)]] w (Said (!(rightC ⟨r, m, n, d, ⟨f, g, b⟩⟩)) w) := by
  obtain ⟨W0, hW0⟩ : ∃ W0, w.alloc (.cells #[.int .i32 r, .int .i32 m, .int .i32 n, .int .u8 (d : Int), .int .u8 (f : Int), .int .u8 (g : Int), .int .u8 (b : Int)] 105) = W0 := ⟨_, rfl⟩
  have HS : Hid (Spans W0) := by unfold Hid; rw [← hW0]; exact hS.alloc _
  have HB : Hid (Below w.heap.size w W0) := by unfold Hid; rw [← hW0]; exact one_new w _ [.int .i32 r, .int .i32 m, .int .i32 n, .int .u8 (d : Int), .int .u8 (f : Int), .int .u8 (g : Int), .int .u8 (b : Int)]
  have HC : Hid (Whole W0 w.heap.size 105 [.int .i32 r, .int .i32 m, .int .i32 n, .int .u8 (d : Int), .int .u8 (f : Int), .int .u8 (g : Int), .int .u8 (b : Int)]) := by unfold Hid; rw [← hW0]; exact Whole.new w 105 [.int .i32 r, .int .i32 m, .int .i32 n, .int .u8 (d : Int), .int .u8 (f : Int), .int .u8 (g : Int), .int .u8 (b : Int)]
  have HW0 := hide hW0
  clear hS hW0
  obtain ⟨c0, c1, c2, c3, c4, c5, c6, -⟩ := cells7 HC.out
  obtain ⟨bq, hbq⟩ : ∃ bq, rightC ⟨r, m, n, d, ⟨f, g, b⟩⟩ = bq := ⟨_, rfl⟩
  have HQ := hide hbq
  clear hbq
  go_enter Tryz.func53, Tryz.ntmps53
  go_wp2_with fail
  rw [HW0.out]
  refine (cright_any r m n d f g b hd _ HS.out).mono ?_
  rintro e w1 ⟨rfl, hb1⟩
  rw [HQ.out]
  go_wp2
  go_ret
  exact ⟨ret_bool (by rw [HQ.out]), HB.out.trans (hb1.mono HB.out.size)⟩

theorem all_take (cs : List Cel) (k : Nat) (hk : k < cs.length) (h : (cs.take k).all rightC = true) (hc : rightC (cAt cs k) = true) : (cs.take (k + 1)).all rightC = true := by
  rw [take_cAt cs k hk, List.all_append, h]
  simp [hc]
theorem all_not (cs : List Cel) (k : Nat) (hk : k < cs.length) (hc : rightC (cAt cs k) = false) : cs.all rightC = false := by
  rw [List.all_eq_false]
  refine ⟨cAt cs k, ?_, by simp [hc]⟩
  have := get_cAt cs k hk
  exact List.mem_of_getElem? this
/-- The search's answer: below 0, where all are right. -/
def FoundC (cs : List Cel) (w : World) (e : Ending) (w' : World) : Prop := ∃ x : Int, e = .returned (.int .i64 x) ∧ decide (0 ≤ x) = !(cs.all rightC) ∧ Below w.heap.size w w'
theorem indexfc_any (A : Option Addr) (n c : Nat) (cs : List Cel) (w : World) (h : Cels .i32 w A cs) (hn : cs.length = n) (hl : n ≤ 1000000) (hb : ∀ i, i < n → (cAt cs i).w < 256) (hS : Spans w) :
    Calls Tryz.prog 79 #[.slice A n c, .func (.func 53) #[] #[]] w (FoundC cs w) := by
  have HC := hide h
  have HN := hide hn
  have HB := hide hb
  have HS := hide hS
  clear h hn hb hS
  go_enter Tryz.func79, Tryz.ntmps79
  go_wp2
  go_loopw [5, 8] (fun _ i wr => ∃ k : Nat, k ≤ n ∧ i = .int .i64 k ∧ Hid ((cs.take k).all rightC = true) ∧ Below w.heap.size w wr) (fun _ i _ => n - (intOf i).toNat)
  case atStart => exact ⟨0, Nat.zero_le _, rfl, (by unfold Hid; simp), Below.refl _ _⟩
  case round =>
    obtain ⟨k, hk, rfl, HA, hbel⟩ := hrel
    have HW := hide hbel
    clear hbel
    by_cases hlt : k < n
    · obtain ⟨b1, o1, rfl, l1, -⟩ := HC.out.at (i := k) (by rw [HN.out]; exact hlt)
      have hcb := HB.out k hlt
      have HT := hide (all_take cs k (by rw [HN.out]; exact hlt) HA.out)
      have HNO := hide (all_not cs k (by rw [HN.out]; exact hlt))
      obtain ⟨⟨r, x, y, z, ⟨f, g, b⟩⟩, hc⟩ : ∃ q, cAt cs k = q := ⟨_, rfl⟩
      rw [hc] at hcb HT HNO
      obtain ⟨u0, u1, u2, u3, u4, u5, u6, -⟩ := (HC.out.below HW.out).sevenC k (by rw [HN.out]; exact hlt) hc
      clear hc
      cases hr : rightC ⟨r, x, y, z, ⟨f, g, b⟩⟩
      · have HR := hide hr
        have HF := hide (HNO.out hr)
        clear hr
        go_wp2_with fail
        refine (runwrong_any r x y z f g b hcb wr (HS.out.below HW.out)).mono ?_
        rintro e w1 ⟨rfl, hb1⟩
        rw [HR.out]
        go_wp2
        go_ret
        exact ⟨_, rfl, by rw [HF.out]; simp, HW.out.trans (hb1.mono HW.out.size)⟩
      · have HR := hide hr
        have HT2 := hide (HT.out hr)
        clear hr
        go_wp2_with fail
        refine (runwrong_any r x y z f g b hcb wr (HS.out.below HW.out)).mono ?_
        rintro e w1 ⟨rfl, hb1⟩
        rw [HR.out]
        have HW1 := hide (HW.out.trans (hb1.mono HW.out.size))
        clear hb1
        go_wp2
        go_roundw
        case rel => exact ⟨k + 1, by omega, by go_num, HT2, HW1.out⟩
        case measure => simp [intOf]; omega
    · have HF : Hid (cs.all rightC = true) := by
        have := HA.out
        unfold Hid
        rwa [List.take_of_length_le (by rw [HN.out]; omega)] at this
      go_wp2
      go_ret
      exact ⟨_, rfl, by rw [HF.out]; rfl, HW.out⟩
theorem containsc_any (A : Option Addr) (n c : Nat) (cs : List Cel) (w : World) (h : Cels .i32 w A cs) (hn : cs.length = n) (hl : n ≤ 1000000) (hb : ∀ i, i < n → (cAt cs i).w < 256) (hS : Spans w) :
    Calls Tryz.prog 55 #[.slice A n c, .func (.func 53) #[] #[]] w (Said (!(cs.all rightC)) w) := by
  have KEY := hide (indexfc_any A n c cs w h hn hl hb hS)
  clear h hn hb hS
  go_enter Tryz.func55, Tryz.ntmps55
  go_wp2_with fail
  refine KEY.out.mono ?_
  rintro e w1 ⟨x, rfl, hx, hb1⟩
  go_wp2
  go_ret
  exact ⟨rfl, hb1⟩
attribute [local go_sem] Oper.semAt_some

theorem run_le (a : List (Nat × Cel)) : ∀ x ∈ a, x.1 ≤ (expandR a).length := by
  induction a with
  | nil => intro x hx; cases hx
  | cons y a ih =>
    intro x hx
    rw [expand_cons, List.length_append, List.length_replicate]
    rcases List.mem_cons.1 hx with rfl | hx
    · omega
    · have := ih x hx; omega
theorem runs_le2 {l : List Cel} {x : Nat × Cel} (h : x ∈ runsOf l) : x.1 ≤ l.length := by
  have := run_le _ x h
  rwa [expand_runs] at this
theorem runBytes_len (a : List (Nat × Cel)) : (runBytes a).length ≤ 70 * a.length := by
  induction a with
  | nil => simp [runBytes]
  | cons x a ih =>
    rw [runBytes_cons, List.length_append, List.length_cons]
    have h1 := encAll_len (numsR x.1 x.2)
    have h2 : (numsR x.1 x.2).length ≤ 7 := by
      unfold numsR cellNums marksOf
      split
      · simp
      · split <;> split <;> simp
    omega
theorem below_keep {B : Nat} {w A A' : World} {row : Option Nat} (h : Below B w A) (hg : A.grownBy A' row) (hB : B ≤ w.heap.size) (hr : ∀ r, row = some r → B ≤ r) : Below B w A' := h.grown hg (Nat.le_trans hB h.size) hr
/-- What is told, where a block that is no cells turns. -/
theorem Pt.turned {B p : Nat} {w w' : World} {bs : List Int} {row : Option Nat} (h : Pt B p w bs) (hg : w.grownBy w' row) (hr : ∀ r, row = some r → ∃ o : Obj, w.heap[r]? = some o ∧ o.isCells = false) : Pt B p w' bs := by
  obtain ⟨v, hv, ho⟩ := h.ex
  have key : ∀ (b : Nat) (cur : Array Value) (t : TypeId), w.heap[b]? = some (Obj.cells cur t (0, 0)) → w'.heap[b]? = w.heap[b]? := by
    intro b cur t hb
    refine hg.block b (Array.getElem?_eq_some_iff.1 hb).1 ?_
    intro e
    obtain ⟨o, ho, hc⟩ := hr b e.symm
    rw [hb] at ho
    cases ho
    cases hc
  exact ⟨⟨v, (key p _ _ hv).trans hv, ⟨ho.cl.keep fun g cur hh => key g cur 5 hh, Below.refl _ _, Nat.le_trans ho.le hg.size⟩⟩, h.ge⟩
theorem whole_turned {w w' : World} {q : Nat} {t : TypeId} {l : List Value} {row : Option Nat} (h : Whole w q t l) (hg : w.grownBy w' row) (hr : ∀ r, row = some r → ∃ o : Obj, w.heap[r]? = some o ∧ o.isCells = false) : Whole w' q t l := by
  refine (hg.block q h.lt ?_).trans h
  intro e
  obtain ⟨o, ho, hc⟩ := hr q e.symm
  rw [show w.heap[q]? = _ from h] at ho
  cases ho
  cases hc
/-- The call answered with these cells' bytes, and left all that was there. -/
def GaveB (cs : List Cel) (w : World) (e : Ending) (w' : World) : Prop := ∃ v, e = .returned (.tuple #[v, .int .i64 (checkR cs)]) ∧ Own 5 .u8 w.heap.size w w' v (if checkR cs = 0 then bytesR cs else [])
theorem bytes_long (A : Option Addr) (n c : Nat) (cs : List Cel) (w : World) (hn : cs.length = n) (hl : 512 < n) (hlm : n ≤ 1000000) : Calls Tryz.prog 36 #[.slice A n c] w (GaveB cs w) := by
  have E : Hid (checkR cs = 2) := by unfold Hid checkR; rw [if_pos (by omega)]
  clear hn
  go_enter Tryz.func36, Tryz.ntmps36
  go_wp2
  go_ret2
  exact ⟨.slice none 0 0, by rw [E.out]; rfl, by rw [E.out]; exact Own.start (Nat.le_refl _)⟩
theorem bytes_wrong (A : Option Addr) (n c : Nat) (cs : List Cel) (w : World) (h : Cels .i32 w A cs) (hn : cs.length = n) (hl : n ≤ 512) (hb : ∀ i, i < n → (cAt cs i).w < 256) (hS : Spans w) (hw : cs.all rightC = false) : Calls Tryz.prog 36 #[.slice A n c] w (GaveB cs w) := by
  have E : Hid (checkR cs = 1) := by unfold Hid checkR; rw [if_neg (by omega), hw]; rfl
  have HW := hide hw
  have KEY := hide (containsc_any A n c cs w h hn (by omega) hb hS)
  clear hn h hb hS hw
  go_enter Tryz.func36, Tryz.ntmps36
  go_wp2_with fail
  refine KEY.out.mono ?_
  rintro e w1 ⟨rfl, hb1⟩
  rw [HW.out]
  go_wp2
  go_ret2
  exact ⟨.slice none 0 0, by rw [E.out]; rfl, by rw [E.out]; exact ⟨World.ownsRow_nil _ _ _ _, hb1, hb1.size⟩⟩
theorem wp_normal {P : Program} {c : Code} {Q : Exit → Act → World → Prop} {a : Act} {w : World} (h : c.wp P (fun e a w => e = .normal ∧ Q .normal a w) a w) : c.wp P Q a w := wp_mono h (by rintro e a w ⟨rfl, h⟩; exact h)
theorem own_turned {B : Nat} {w w' : World} {v : Value} {bs : List Int} {row : Option Nat} (ho : Own 5 .u8 B w w v bs) (hg : w.grownBy w' row) (hr : ∀ r, row = some r → ∃ o : Obj, w.heap[r]? = some o ∧ o.isCells = false) : Own 5 .u8 B w' w' v bs :=
  ⟨ho.cl.keep fun g cur hh => (by
    refine hg.block g (Array.getElem?_eq_some_iff.1 hh).1 ?_
    intro e
    obtain ⟨o, ho, hc⟩ := hr g e.symm
    rw [hh] at ho
    cases ho
    cases hc), Below.refl _ _, Nat.le_trans ho.le hg.size⟩
/-- What a round leaves, behind these runs. -/
structure Rnd (cs : List Cel) (B p q C9 : Nat) (w : World) (pre : List (RunIn cs)) (W : World) : Prop where
  pt : Pt B p W (enc (countR cs) ++ runBytes (pre.map (·.1)))
  fn : Whole W q 109 [.func (.func 56) #[] #[.pointer (some ⟨p, 0, none⟩)]]
  bel : Below B w W
  w9 : C9 ≤ W.heap.size
theorem Rnd.turned {cs : List Cel} {B p q C9 C : Nat} {w : World} (hB : B ≤ w.heap.size) (hC : B ≤ C) : OwnFrom C (Rnd cs B p q C9 w) := by
  intro s W W' row hs hg hr
  exact ⟨hs.pt.turned hg (fun r e => (hr r e).2), whole_turned hs.fn hg (fun r e => (hr r e).2), below_keep hs.bel hg hB (fun r e => Nat.le_trans hC (hr r e).1), Nat.le_trans hs.w9 hg.size⟩
theorem bytes_right (A : Option Addr) (n c : Nat) (cs : List Cel) (w : World) (h : Cels .i32 w A cs) (hn : cs.length = n) (hl : n ≤ 512) (hnc : n ≤ c) (hb : ∀ i, i < n → (cAt cs i).w < 256) (hS : Spans w) (hw : cs.all rightC = true) : Calls Tryz.prog 36 #[.slice A n c] w (GaveB cs w) := by
  have E : Hid (checkR cs = 0) := by unfold Hid checkR; rw [if_neg (by omega), if_pos hw]
  have HW := hide hw
  have KEY := hide (containsc_any A n c cs w h hn (by omega) hb hS)
  have HC := hide h
  have HN := hide hn
  have hblk := hide (cel_block h)
  have hcl : countR cs ≤ 512 := by rw [← runs_count]; have := runs_le cs; omega
  have HX : Hid (∀ x : RunIn cs, rightC x.1.2 = true ∧ x.1.1 ≤ 512) := fun x => ⟨runs_right hw x.1 x.2, by have := runs_le2 x.2; omega⟩
  obtain ⟨B, hB⟩ : ∃ B, w.heap.size = B := ⟨_, rfl⟩
  have HBB := hide hB
  clear h hb hS hw
  refine (callsIn_wide (n := 9)).1 ?_
  refine callsIn_of_wp_marks Tryz.func36 rfl trivial ?_ rfl
  simp only [Tryz.ntmps36, List.size_toArray, List.length_cons, List.length_nil, Nat.reduceAdd, Nat.reduceSub, Array.replicate_succ, Array.replicate_zero, List.push_toArray, List.append_toArray, List.nil_append, List.cons_append]
  refine (wpIn_wide (n := 9)).2 ?_
  go_wp2_with fail
  refine KEY.out.mono ?_
  rintro e w1 ⟨rfl, hb1⟩
  rw [HW.out]
  go_wp2
  obtain ⟨p, hp⟩ : ∃ p, w1.heap.size = p := ⟨_, rfl⟩
  rw [hp]
  obtain ⟨W8, hW8⟩ : ∃ W8, (w1.alloc (.cells #[.slice none 0 0] 36)).alloc (.cells #[.func (.func 56) #[] #[.pointer (some ⟨p, 0, none⟩)]] 109) = W8 := ⟨_, rfl⟩
  rw [hW8]
  have HB8 : Hid (Below B w W8) := by unfold Hid; rw [← hW8, ← hB]; exact (hb1.alloc hb1.size _).alloc (by have := hb1.size; simp; omega) _
  have HPB : Hid (B ≤ p) := by unfold Hid; rw [← hB, ← hp]; exact hb1.size
  have hf8 : Whole W8 (p + 1) 109 [.func (.func 56) #[] #[.pointer (some ⟨p, 0, none⟩)]] := by rw [← hW8, ← hp]; exact whole_snd w1 _ 109 _
  have HF8 := hide hf8
  have hp8 : Whole W8 p 36 [.slice none 0 0] := by rw [← hW8, ← hp]; exact (Whole.new w1 36 _).alloc _
  have HP8 : Hid (Pt B p W8 []) := ⟨⟨_, hp8, Own.start (Nat.le_trans HPB.out (Nat.le_of_lt hp8.lt))⟩, HPB.out⟩
  have HL8 : Hid (B ≤ W8.heap.size) := Nat.le_trans HPB.out (Nat.le_of_lt hp8.lt)
  have HC8 : Hid (Cels .i32 W8 A cs) := HC.out.below (hB ▸ HB8.out)
  clear hb1 hp hW8 hf8 hp8 KEY
  refine wp_normal ?_
  refine wp_region_chainL (fun w' => Below W8.heap.size W8 w') 3 [(0, 1), (0, 0), (1, 2), (3, 3)] (by kernel_rfl) (by kernel_rfl) (by kernel_rfl) (fun _ _ _ _ _ h => nomatch h.1) ?_ ?_
  · exact (Below.refl _ _).drewN 1
  refine chainL_take (v := ?_) (by simp only [List.getElem?_toArray, List.getElem?_cons_zero, List.getElem?_cons_succ]; rfl) (by rfl) (fun w hS => ?_) ?_
  rotate_left
  · go_simp <;> with_reducible rfl
  simp only [Act.put, List.setIfInBounds_toArray, List.set_cons_zero, List.set_cons_succ]
  refine chainL_take (v := ?_) (by simp only [List.getElem?_toArray, List.getElem?_cons_zero]; rfl) (by rfl) (fun w hS => ?_) ?_
  rotate_left
  · obtain z0 := (HF8.out.later hS).cell 0; simp only [List.getElem?_cons_zero] at z0; go_simp <;> with_reducible rfl
  simp only [Act.put, List.setIfInBounds_toArray, List.set_cons_zero, List.set_cons_succ]
  refine chainL_alone (by simp only [List.getElem?_toArray, List.getElem?_cons_zero, List.getElem?_cons_succ]; rfl) ?_
  intro K hK
  go_wp2_with fail
  refine (runcount_any A n c cs _ (HC8.out.below ((Below.refl _ _).drewN 1)) HN.out (by omega) hnc).mono ?_
  rintro e w9 ⟨rfl, hb9⟩
  have B9 : Below W8.heap.size W8 w9 := ((Below.refl _ _).drewN 1).trans hb9
  have HP9 := hide (HP8.out.later B9)
  have HB9 := hide B9
  clear hb9
  go_wp2
  refine hK.out _ _ (HB9.out) ?_
  clear hK K
  refine chainL_late (by simp only [List.getElem?_toArray, List.getElem?_cons_zero, List.getElem?_cons_succ]; rfl) ?_
  intro K hK
  go_wp2_with fail
  refine (runput_any B p [] (countR cs) w9 HP9.out (by omega) (by simp)).mono ?_
  rintro e w10 ⟨rfl, hp10, ha10⟩
  rw [List.nil_append] at hp10
  have HP10 := hide hp10
  have HA10 := hide ((Ap.of_below HB9.out HL8.out).trans ha10)
  clear hp10 ha10
  go_wp2
  refine hK.out _ _ ?_
  clear hK K
  refine chainL_nil ?_
  refine ⟨rfl, ?_⟩
  go_wp2_with fail
  refine (each_any A n c w10).mono ?_
  rintro e w11 ⟨rfl, rfl⟩
  obtain ⟨W9, hW9⟩ : ∃ W9, w10.alloc (.cells #[.slice A n c] 66) = W9 := ⟨_, rfl⟩
  rw [hW9]
  have hbl9 : Below w10.heap.size w10 W9 := by rw [← hW9]; exact (Below.refl _ _).alloc (Nat.le_refl _) _
  have hsz9 : W9.heap.size = w10.heap.size + 1 := by rw [← hW9]; simp
  have hbx9 : W9.cell? ⟨w10.heap.size, 0, none⟩ = some (.slice A n c) := by rw [← hW9]; simp
  have hBw : B ≤ w10.heap.size := Nat.le_trans HL8.out HA10.out.size
  have hC9 : Cels .i32 W9 A cs := ((HC.out.below (hB ▸ (HB8.out.trans HA10.out.bel)))).below hbl9
  have hp9 := HP10.out.later hbl9
  have hf9 : Whole W9 (p + 1) 109 [.func (.func 56) #[] #[.pointer (some ⟨p, 0, none⟩)]] := (HA10.out.whole HF8.out (by omega) (by decide)).later hbl9
  have hb9 : Below B w W9 := (HB8.out.trans HA10.out.bel).trans (hbl9.mono hBw)
  have hlt9 : p + 1 < W9.heap.size := hf9.lt
  have hblk9 : ∀ b off, A = some ⟨b, off, none⟩ → cs ≠ [] → b < B := fun b off e1 e2 => hB ▸ hblk.out b off e1 e2
  have H0 : Hid (Rnd cs B p (p + 1) W9.heap.size w [] W9) := ⟨by simpa [runBytes] using hp9, hf9, hb9, Nat.le_refl _⟩
  clear hp9 hf9 hW9 HC8
  go_wp2
  refine (wpIn_wide (n := 9)).1 ?_
  refine wpIn_rangeFunc_ownH rfl (by omega) (gf := 80) (lb := #[.pointer (some ⟨w10.heap.size, 0, none⟩)]) rfl trivial (enters_of Tryz.func80 (by kernel_rfl) rfl)
    (each_stops B (9 - 1) w10.heap.size A n c cs W9 hn (by omega) hnc (by omega) (by omega) (by omega) hbx9 hC9 hblk9) belowK_t (belowK_b (by omega)) (Below.refl _ _) (by intro x; rfl)
    (Rnd cs B p (p + 1) W9.heap.size w) (fun _ _ _ => False) (Rnd.turned (Nat.le_of_eq hB.symm) (by omega)) (fun _ _ _ _ _ hs _ _ => hs) H0.out
    (fun x a' W => ∃ Bx, W9.heap.size ≤ Bx ∧ Whole W Bx 105 [.int .i32 x.1.2.r, .int .i32 x.1.2.m, .int .i32 x.1.2.n, .int .u8 (x.1.2.w : Int), .int .u8 (x.1.2.p.f : Int), .int .u8 (x.1.2.p.g : Int), .int .u8 (x.1.2.p.b : Int)] ∧ a' = { tmps := #[.slice A n c, undef, .slice none 0 0, .int .i64 0, .func (.func 53) #[] #[], .pointer (some ⟨p, 0, none⟩), .pointer (some ⟨p + 1, 0, none⟩), .pointer (some ⟨Bx, 0, none⟩), .int .i64 (x.1.1 : Int), .slice A n c, .int .i64 (n : Int), .bool (decide (512 < (n : Int))), .slice A n c, .func (.func 53) #[] #[], .bool false, .func (.func 56) #[] #[.pointer (some ⟨p, 0, none⟩)], .func (.func 56) #[] #[.pointer (some ⟨p, 0, none⟩)], .slice A n c, .int .i64 (countR cs : Int), .tuple #[], .slice A n c, .func (.func 80) #[] #[.pointer (some ⟨w10.heap.size, 0, none⟩)], .agg #[.int .i32 x.1.2.r, .int .i32 x.1.2.m, .int .i32 x.1.2.n, .int .u8 (x.1.2.w : Int), .int .u8 (x.1.2.p.f : Int), .int .u8 (x.1.2.p.g : Int), .int .u8 (x.1.2.p.b : Int)], .int .i64 (x.1.1 : Int), undef, undef, undef, undef, undef, undef, undef], defers := [] })
    (by
      intro x a' s A B' row hs hg hr
      obtain ⟨Bx, h1, h2, h3⟩ := hs
      exact ⟨Bx, h1, whole_turned h2 hg (fun r e => (hr r e).2), h3⟩) ?assign ?body ?done ?stop
  case assign =>
    intro l pre x W K hI hK
    have hBW : B ≤ W.heap.size := Nat.le_trans (Nat.le_of_eq hB.symm) hI.bel.size
    gi_wp2
    have hal : Below W.heap.size W (W.alloc (.cells #[.int .i32 x.1.2.r, .int .i32 x.1.2.m, .int .i32 x.1.2.n, .int .u8 (x.1.2.w : Int), .int .u8 (x.1.2.p.f : Int), .int .u8 (x.1.2.p.g : Int), .int .u8 (x.1.2.p.b : Int)] 105)) := (Below.refl _ _).alloc (Nat.le_refl _) _
    have hlt : p + 1 < W.heap.size := hI.fn.lt
    exact hK _ _ ((KeepsOthers.alloc _ _).from _) (hal.mono hBW) ⟨hI.pt.later hal, hI.fn.later hal, hI.bel.trans (hal.mono hBW), Nat.le_trans hI.w9 hal.size⟩ ⟨W.heap.size, by have := hI.w9; omega, Whole.new W 105 _, rfl⟩
  case body =>
    rintro l pre ⟨⟨k, ⟨rr, m, y, d, ⟨f, g, b⟩⟩⟩, hxm⟩ a' W hl ⟨r0, hr0⟩ hI ⟨Bx, hBx, hWx, rfl⟩ hlen
    have hx1 := (HX.out ⟨_, hxm⟩).1
    have hx2 := (HX.out ⟨_, hxm⟩).2
    dsimp only at hx1 hx2 hWx ⊢
    have hBW : B ≤ W.heap.size := Nat.le_trans (Nat.le_of_eq hB.symm) hI.bel.size
    have hd : 1 ≤ 9 - 1 - 1 := by omega
    have hbs : (enc (countR cs) ++ runBytes (pre.map (·.1))).length ≤ 40000 := by
      have h1 := (enc_len (countR cs)).2
      have h2 := runBytes_len (pre.map (·.1))
      have h3 := runs_le cs
      rw [List.length_map] at h2
      rw [List.length_append]
      omega
    have hbs2 : ((enc (countR cs) ++ runBytes (pre.map (·.1))) ++ enc k).length ≤ 50000 := by
      have h1 := (enc_len k).2
      rw [List.length_append]
      omega
    have HI := hide hI
    have HWX := hide hWx
    have HX1 := hide hx1
    have f0 := hI.fn.cell 0
    simp only [List.getElem?_cons_zero] at f0
    clear hI hWx hx1
    gi_wp2_with (first | (refine ⟨trivial, ?_⟩; gi_at_call 56; refine (CallsIn.inRound l (callsIn_wide.2 (runput_any B p _ k W HI.out.pt (by omega) (by omega)))).mono ?_; rintro e w2 ⟨rfl, hp2, ha2⟩; have HP2 := hide hp2; have HA2 := hide ha2; have f2 := (ha2.whole HI.out.fn (by omega) (by decide)).cell 0; simp only [List.getElem?_cons_zero] at f2; obtain ⟨c0, c1, c2, c3, c4, c5, c6, -⟩ := cells7 (ha2.whole HWX.out (by omega) (by decide)); clear hp2 ha2 f0) | (refine ⟨trivial, ?_⟩; gi_at_call 59; refine (CallsIn.inRound l (callsIn_wide.2 (putcell_any B p _ rr m y d f g b w2 HP2.out HX1.out (by omega) (Nat.le_trans hBW HA2.out.size)))).mono ?_; rintro e w3 ⟨rfl, hp3, ha3⟩; have HP3 := hide hp3; have HA3 := hide ha3; clear hp3 ha3 c0 c1 c2 c3 c4 c5 c6))
    obtain ⟨v2, hv2⟩ := HP2.out.whole
    obtain ⟨v1, hv1⟩ := HI.out.pt.whole
    refine ⟨(HA2.out.keeps hv1 _).trans (HA3.out.keeps hv2 _), (HA2.out.trans HA3.out).bel, ⟨?_, HA3.out.whole (HA2.out.whole HI.out.fn (by omega) (by decide)) (by omega) (by decide), HI.out.bel.trans (HA2.out.trans HA3.out).bel, Nat.le_trans HI.out.w9 (HA2.out.trans HA3.out).size⟩⟩
    have e : enc (countR cs) ++ runBytes ((pre ++ [(⟨(k, ⟨rr, m, y, d, ⟨f, g, b⟩⟩), hxm⟩ : RunIn cs)]).map (fun x : RunIn cs => x.1)) = enc (countR cs) ++ runBytes (pre.map (·.1)) ++ enc k ++ encAll (cellNums ⟨rr, m, y, d, ⟨f, g, b⟩⟩) := by
      rw [List.map_append, runBytes_append]
      simp [runBytes, numsR, encAll]
    rw [e]
    exact HP3.out
  case done =>
    rintro D ys W hD hS hI hK
    obtain ⟨v, hv, ho⟩ := hI.pt.ex
    have e : enc (countR cs) ++ runBytes (ys.map (·.1)) = bytesR cs := by rw [hS]; rfl
    rw [e] at ho
    obtain ⟨A5, c5, hv5, -, -, -⟩ := ho.form
    obtain ⟨L5, hL5⟩ : ∃ L5, (bytesR cs).length = L5 := ⟨_, rfl⟩
    rw [hL5] at hv5
    subst hv5
    have c0 := hv.cell 0
    simp only [List.getElem?_cons_zero] at c0
    have hbel := hI.bel
    have HBE := hide hbel
    clear hI
    go_wp2
    refine ⟨by simp, .inl ⟨_, _, rfl, run_takeDeferred hK, ?_⟩⟩
    refine ⟨_, results_tmp2 rfl _ _ _, _, by rw [E.out]; rfl, ?_⟩
    rw [E.out, if_pos rfl, hB]
    have ho2 := own_turned ho (grownBy_putObj' W D (.deferred none)) (fun r e => by cases e; exact ⟨_, hK, rfl⟩)
    exact ⟨ho2.own, below_keep HBE.out (grownBy_putObj' W D (.deferred none)) (Nat.le_of_eq hB.symm) (fun r e => by cases e; omega), ho2.le⟩
  case stop =>
    rintro D c pre W _ _ h _
    exact h.elim
end
theorem nums_bd {k : Nat} {c : Cel} (hk : k ≤ 512) (h : rightC c = true) : ∀ z ∈ numsR k c, 0 ≤ z ∧ z < 18446744073709551616 := by
  obtain ⟨hp, hf⟩ := right_facts h
  obtain ⟨k0, k1⟩ := numN_bd hp
  obtain ⟨r, m, n, d, ⟨f, g, b⟩⟩ := c
  simp only at hp hf k0 k1
  intro z hz
  unfold numsR cellNums at hz
  simp only [List.mem_cons, List.mem_append, List.not_mem_nil, or_false] at hz
  rcases hz with rfl | (rfl | rfl) | hz
  · omega
  · rcases hf with ⟨q, -⟩ | ⟨q, -⟩ <;> omega
  · omega
  · by_cases h0 : d = 0
    · rw [if_pos h0] at hz
      cases hz
    · rw [if_neg h0] at hz
      rcases hf with ⟨q, -⟩ | ⟨q, hr, -, hm, hn⟩
      · exact absurd q h0
      · obtain ⟨b1, b2⟩ := marks_bd r m n d f g b hm hn
        simp only [List.mem_cons, List.mem_append, List.not_mem_nil, or_false] at hz
        rcases hz with (rfl | rfl) | hz
        · omega
        · omega
        · have := b2 z hz
          omega
theorem bytesR_byte {cs : List Cel} (hl : cs.length ≤ 512) (h : cs.all rightC = true) : Byte (bytesR cs) := by
  unfold bytesR runBytes
  intro z hz
  rcases List.mem_append.1 hz with hz | hz
  · refine enc_byte _ ?_ z hz
    have := runs_le cs
    rw [runs_count] at this
    omega
  · obtain ⟨x, hx, hz⟩ := List.mem_flatMap.1 hz
    exact encAll_byte _ (nums_bd (by have := runs_le2 hx; omega) (runs_right h x hx)) z hz
theorem checkR_zero {cs : List Cel} (h : checkR cs = 0) : cs.length ≤ 512 ∧ cs.all rightC = true := by
  unfold checkR at h
  by_cases q : 512 < cs.length
  · rw [if_pos q] at h; omega
  · rw [if_neg q] at h
    refine ⟨by omega, ?_⟩
    cases z : cs.all rightC
    · rw [z] at h; simp at h
    · rfl
section
open Go.ChangeShapes Go.WideShapes Go.ChangeAt Go.RowKit
theorem fitTab_len (cs : List Cel) (n : Int) : (fitTab cs n).length = lenN n := tab_len _ _
theorem fit_len (cs : List Cel) (n : Int) : (fitC cs n).length = lenN n := by unfold fitC; rw [mend_len, fitTab_len]
theorem nu_same_yes (A B : Option Addr) (n c d : Nat) (bs : List Int) (w : World) (ha : Ints .u8 w A bs) (hb : Ints .u8 w B bs) (hn : bs.length = n) (hy : Byte bs) :
    Calls Tryz.prog 13 #[.slice A n c, .slice B n d] w fun e w' => e = .returned (.bool true) ∧ w = w' := by
  have r1 := run_strOf (P := Tryz.prog) w 36 9 5 Tryz.underlying36 Tryz.underlying5 Tryz.underlying9 A c bs ha hy
  have r2 := run_strOf (P := Tryz.prog) w 36 9 5 Tryz.underlying36 Tryz.underlying5 Tryz.underlying9 B d bs hb hy
  rw [hn] at r1 r2
  generalize strOf bs = s at r1 r2
  clear hn ha hb hy
  go_enter Tryz.func13, Tryz.ntmps13
  go_wp2
  go_ret
  simp

theorem nu_all_any (a : Option Addr) (len cap : Nat) (zs : List Int) (w : World) (h : Ints .u64 w a zs) (hl : zs.length = len) (hlen : len ≤ 10000) (hz : ∀ z ∈ zs, 0 ≤ z ∧ z < 18446744073709551616) :
    Calls Tryz.prog 27 #[.slice a len cap] w (Made 5 .u8 w (encAll zs)) := by
  have HL := hide hl
  clear hl
  go_enter Tryz.func27, Tryz.ntmps27
  go_wp2
  go_loopw [3, 4] (fun v i wr => ∃ k : Nat, k ≤ len ∧ i = .int .i64 k ∧ Own 5 .u8 w.heap.size w wr v (encAll (zs.take k)))
    (fun _ i _ => len - (intOf i).toNat)
  case atStart => exact ⟨0, Nat.zero_le _, rfl, Own.start (Nat.le_refl _)⟩
  case round =>
    obtain ⟨k, hk, rfl, hown⟩ := hrel
    by_cases hlt : k < len
    · obtain ⟨b, off, rfl, hc, hb⟩ := h.at (i := k) (by rw [HL.out]; exact hlt)
      have hcx : wr.cell? ⟨b, off + k, none⟩ = some (.int .u64 (zs.getD k 0)) := (hown.bel.cell (by exact hb)).trans hc
      obtain ⟨n, hn, hn64⟩ := getD_nat zs hz k (by rw [HL.out]; exact hlt)
      rw [hn] at hcx
      have hl1 := encAll_len (zs.take k)
      have hl2 := (enc_len n).2
      have hl3 : (zs.take k).length ≤ k := List.length_take_le _ _
      have HT : Hid (encAll (zs.take (k + 1)) = encAll (zs.take k) ++ enc n) := by
        unfold Hid
        rw [List.take_succ_eq_append_getElem (by rw [HL.out]; exact hlt), encAll_append, encAll_one]
        rw [List.getD_eq_getElem?_getD, List.getElem?_eq_getElem (by rw [HL.out]; exact hlt)] at hn
        simp at hn
        rw [hn, Int.toNat_natCast]
      clear hn hc
      go_wp2_with fail
      refine (nu_rbytes_any n wr hn64).mono ?_
      rintro e w1 ⟨v, rfl, hv⟩
      obtain ⟨A, c, rfl, hi, hc, hc0⟩ := hv.form
      have hown1 := hown.later hv.bel
      go_wp2_with (at_builtin; refine wpList_cat elemBytes rfl _ _ rfl rfl rfl hown1 hi rfl hc0 (by omega) (by omega) ?_; intro v' w2 hown2)
      go_roundw
      case rel => exact ⟨k + 1, by omega, by go_num, by rw [HT.out]; exact hown2⟩
      case measure => simp [intOf]; omega
    · go_wp2
      go_ret
      exact ⟨_, rfl, by rw [List.take_of_length_le (by rw [HL.out]; omega)] at hown; exact hown⟩

theorem nu_clone_any (A : Option Addr) (n c : Nat) (bs : List Int) (w : World) (h : Ints .u8 w A bs) (hn : bs.length = n) (hc : A = none → c = 0) (hlen : n ≤ 1000000) :
    Calls Tryz.prog 62 #[.slice A n c] w (Made 5 .u8 w bs) := by
  have HN := hide hn
  clear hn
  cases A with
  | none =>
    have hn : bs = [] := by
      rcases h with h | ⟨_, _, h, _⟩
      · exact h
      · cases h
    subst hn
    obtain rfl : c = 0 := hc rfl
    obtain rfl : n = 0 := HN.out.symm
    clear h hc HN hlen
    have e0 : ∀ W, (binOp .eql 36 (.slice none 0 0) (.slice none 0 0)).run Tryz.prog W = .ok (.bool true) W := fun W => Lib.run_eql_slice_nil (P := Tryz.prog) W 36 5 none 0 0 0 0 Tryz.underlying36
    go_enter Tryz.func62, Tryz.ntmps62
    go_wp2
    go_ret
    exact ⟨_, rfl, Own.start (Nat.le_refl _)⟩
  | some ad =>
    obtain rfl : bs.length = n := HN.out
    clear HN hc
    have e0 := fun W => Lib.run_eql_slice_nil (P := Tryz.prog) W 36 5 (some ad) bs.length c 0 0 Tryz.underlying36
    have ho := Own.empty w 5 .u8
    have hi := h.alloc (.cells #[] 5)
    clear h
    go_enter Tryz.func62, Tryz.ntmps62
    go_wp2_with (at_builtin; refine wpList_cat elemBytes rfl _ _ rfl rfl rfl ho hi rfl (fun h => by cases h) (by simpa using hlen) (by omega) ?_; intro v' w2 hown2)
    go_ret
    exact ⟨_, rfl, hown2⟩

/-- A reader: its bytes that are left lie in the slice of its first cell; its place; its error. -/
structure Rdr (w : World) (g : Nat) (A : Option Addr) (cap : Nat) (bs : List Int) (pl er : Int) : Prop where
  blk : w.heap[g]? = some (.cells #[.slice A bs.length cap, .int .i64 pl, .int .i64 er] 123 (0, 0))
  ints : Ints .u8 w A bs
  cap_ : bs.length ≤ cap
  nil_ : A = none → cap = 0

theorem err_any (g : Nat) (A : Option Addr) (c : Nat) (bs : List Int) (pl er : Int) (w : World) (h : Rdr w g A c bs pl er) :
    Calls Tryz.prog 67 #[.pointer (some ⟨g, 0, none⟩)] w fun e w' => e = .returned (.int .i64 er) ∧ w = w' := by
  have hc : w.cell? ⟨g, 2, none⟩ = some (.int .i64 er) := by rw [cell_of_row w g 2 _ 123 (0, 0) h.blk]; rfl
  clear h
  go_enter Tryz.func67, Tryz.ntmps67
  go_wp2
  go_ret
  exact ⟨rfl, rfl⟩
theorem runbytes_any (A : Option Addr) (n c : Nat) (cs : List Cel) (w : World) (h : Cels .i32 w A cs) (hn : cs.length = n) (hlm : n ≤ 1000000) (hnc : n ≤ c) (hb : ∀ i, i < n → (cAt cs i).w < 256) (hS : Spans w) : Calls Tryz.prog 36 #[.slice A n c] w (GaveB cs w) := by
  by_cases q : n ≤ 512
  · cases z : cs.all rightC
    · exact bytes_wrong A n c cs w h hn q hb hS z
    · exact bytes_right A n c cs w h hn q hnc hb hS z
  · exact bytes_long A n c cs w hn (by omega) hlm
theorem rrcheck_any (A : Option Addr) (n c : Nat) (cs : List Cel) (w : World) (h : Cels .i64 w A cs) (hn : cs.length = n) (hl : n ≤ 1000000) (hb : ∀ i, i < n → (cAt cs i).w < 256) :
    Calls Tryz.prog 32 #[.slice A n c] w (Num .i64 (checkR cs) w) := by
  have HC := hide h
  have HN := hide hn
  have HB := hide hb
  by_cases hg : 512 < n
  · have E : Hid (checkR cs = 2) := by unfold Hid checkR; rw [if_pos (by omega)]
    clear h hn hb
    go_enter Tryz.func32, Tryz.ntmps32
    go_wp2
    go_ret
    exact ⟨ret_int E.out.symm, Below.refl _ _⟩
  · have E0 : Hid (cs.all rightC = true → checkR cs = 0) := fun q => by unfold checkR; rw [if_neg (by omega), if_pos q]
    have E1 : Hid (cs.all rightC = false → checkR cs = 1) := fun q => by unfold checkR; rw [if_neg (by omega), q]; rfl
    clear h hn hb
    go_enter Tryz.func32, Tryz.ntmps32
    go_wp2
    go_loopw [3] (fun i wr => ∃ k : Nat, k ≤ n ∧ i = .int .i64 k ∧ Hid ((cs.take k).all rightC = true) ∧ Below w.heap.size w wr) (fun i _ => n - (intOf i).toNat)
    case atStart => exact ⟨0, Nat.zero_le _, rfl, (by unfold Hid; simp), Below.refl _ _⟩
    case round =>
      obtain ⟨k, hk, rfl, HA, hbel⟩ := hrel
      have HW := hide hbel
      clear hbel
      by_cases hlt : k < n
      · obtain ⟨b1, o1, rfl, l1, -⟩ := HC.out.at (i := k) (by rw [HN.out]; exact hlt)
        have hcb := HB.out k hlt
        have HT := hide (all_take cs k (by rw [HN.out]; exact hlt) HA.out)
        have HNO := hide (all_not cs k (by rw [HN.out]; exact hlt))
        obtain ⟨⟨r, x, y, z, ⟨f, g, b⟩⟩, hc⟩ : ∃ q, cAt cs k = q := ⟨_, rfl⟩
        rw [hc] at hcb HT HNO
        obtain ⟨u0, u1, u2, u3', u4, u5, u6, -⟩ := (HC.out.below HW.out).sevenC k (by rw [HN.out]; exact hlt) hc
        clear hc
        cases hr : rightC ⟨r, x, y, z, ⟨f, g, b⟩⟩
        · have HR := hide hr
          have HF := hide (E1.out (HNO.out hr))
          clear hr
          go_wp2_with fail
          refine (rcright_any r x y z f g b hcb wr).mono ?_
          rintro e w1 ⟨rfl, hb1⟩
          rw [HR.out]
          go_wp2
          go_ret
          exact ⟨ret_int HF.out.symm, HW.out.trans (hb1.mono HW.out.size)⟩
        · have HR := hide hr
          have HT2 := hide (HT.out hr)
          clear hr
          go_wp2_with fail
          refine (rcright_any r x y z f g b hcb wr).mono ?_
          rintro e w1 ⟨rfl, hb1⟩
          rw [HR.out]
          have HW1 := hide (HW.out.trans (hb1.mono HW.out.size))
          clear hb1
          go_wp2
          go_roundw
          case rel => exact ⟨k + 1, by omega, by go_num, HT2, HW1.out⟩
          case measure => simp [intOf]; omega
      · have HF : Hid (checkR cs = 0) := by
          have := HA.out
          rw [List.take_of_length_le (by rw [HN.out]; omega)] at this
          exact E0.out this
        go_wp2
        go_ret
        exact ⟨ret_int HF.out.symm, HW.out⟩

theorem countTo_le (cs : List Cel) (k : Nat) : countTo cs k ≤ k := by
  induction k with
  | zero => simp [countTo]
  | succ k ih =>
    show countTo cs k + _ ≤ _
    split <;> omega
theorem rrcount_any (A : Option Addr) (n c : Nat) (cs : List Cel) (w : World) (h : Cels .i64 w A cs) (hn : cs.length = n) (hl : n ≤ 1000000) :
    Calls Tryz.prog 70 #[.slice A n c] w (Num .i64 (countR cs : Int) w) := by
  have HC := hide h
  have HN := hide hn
  have nC := @neqC
  clear h hn
  go_enter Tryz.func70, Tryz.ntmps70
  go_wp2
  go_loopw [3, 4] (fun v i wr => ∃ k : Nat, k ≤ n ∧ i = .int .i64 k ∧ v = .int .i64 (countTo cs k : Int) ∧ Below w.heap.size w wr) (fun _ i _ => n - (intOf i).toNat)
  case atStart => exact ⟨0, Nat.zero_le _, rfl, rfl, Below.refl _ _⟩
  case round =>
    obtain ⟨k, hk, rfl, rfl, hbel⟩ := hrel
    have HW := hide hbel
    have hcl := countTo_le cs k
    clear hbel
    by_cases hlt : k < n
    · have HS : Hid (countTo cs (k + 1) = countTo cs k + (if k = 0 ∨ cAt cs k ≠ cAt cs (k - 1) then 1 else 0)) := rfl
      rcases Nat.eq_zero_or_pos k with hz | hz
      · have e0 : ((k : Int) == 0) = true := by simp; omega
        have HS2 : Hid (countTo cs (k + 1) = countTo cs k + 1) := by unfold Hid; rw [HS.out, if_pos (.inl hz)]
        generalize countTo cs k = C at *
        clear hz
        go_wp2
        go_quiet (fail)
        go_wp2
        go_roundw
        case rel => exact ⟨k + 1, by omega, by go_num, by rw [HS2.out]; go_num, HW.out.drewN _⟩
        case measure => simp [intOf]; omega
      · obtain ⟨j, rfl⟩ : ∃ j, k = j + 1 := ⟨k - 1, by omega⟩
        have e0 : ((j : Int) + 1 == 0) = false := by simp; omega
        have e1 : ((j : Int) + 1).toNat = j + 1 := by omega
        have e2 : (j : Int) + 1 < (n : Int) := by omega
        have e3 : (0 : Int) ≤ (j : Int) + 1 := by omega
        rw [Nat.add_sub_cancel] at HS
        obtain ⟨b1, o1, rfl, l1, -⟩ := HC.out.at (i := j + 1) (by rw [HN.out]; exact hlt)
        obtain ⟨⟨r, x, y, z, ⟨f, g, b⟩⟩, hc⟩ : ∃ q, cAt cs (j + 1) = q := ⟨_, rfl⟩
        obtain ⟨⟨r', x', y', z', ⟨f', g', b'⟩⟩, hc'⟩ : ∃ q, cAt cs j = q := ⟨_, rfl⟩
        obtain ⟨u0, u1, u2, u3', u4', u5, u6, -⟩ := (HC.out.below HW.out).sevenC (j + 1) (by rw [HN.out]; exact hlt) hc
        obtain ⟨v0, v1, v2, v3, v4, v5, v6, -⟩ := (HC.out.below HW.out).sevenC j (by rw [HN.out]; omega) hc'
        rw [hc, hc'] at HS
        clear hc hc' hz
        by_cases hq : (⟨r, x, y, z, ⟨f, g, b⟩⟩ : Cel) = ⟨r', x', y', z', ⟨f', g', b'⟩⟩
        · have hqq : eqC r x y (z : Int) (f : Int) (g : Int) (b : Int) r' x' y' (z' : Int) (f' : Int) (g' : Int) (b' : Int) = true := by rw [eqC_cel]; exact decide_eq_true hq
          have HS2 : Hid (countTo cs (j + 1 + 1) = countTo cs (j + 1)) := by unfold Hid; rw [HS.out, if_neg (fun q => by rcases q with q | q; omega; exact q hq), Nat.add_zero]
          generalize countTo cs (j + 1) = C at *
          clear hq
          go_wp2
          go_quiet (fail)
          go_wp2
          go_roundw
          case rel => exact ⟨j + 1 + 1, by omega, by go_num, by rw [HS2.out], HW.out.drewN _⟩
          case measure => simp [intOf]; omega
        · have hqq : eqC r x y (z : Int) (f : Int) (g : Int) (b : Int) r' x' y' (z' : Int) (f' : Int) (g' : Int) (b' : Int) = false := by rw [eqC_cel]; exact decide_eq_false hq
          have HS2 : Hid (countTo cs (j + 1 + 1) = countTo cs (j + 1) + 1) := by unfold Hid; rw [HS.out, if_pos (.inr hq)]
          generalize countTo cs (j + 1) = C at *
          clear hq
          go_wp2
          go_quiet (fail)
          go_wp2
          go_roundw
          case rel => exact ⟨j + 1 + 1, by omega, by go_num, by rw [HS2.out]; go_num, HW.out.drewN _⟩
          case measure => simp [intOf]; omega
    · have HF : Hid (countR cs = countTo cs k) := by unfold Hid countR; rw [HN.out, show n = k by omega]
      go_wp2
      go_ret
      exact ⟨by rw [HF.out]; rfl, HW.out⟩
end
end Go.Proofs.YtcbdokocnjoilaaGreatDoor
