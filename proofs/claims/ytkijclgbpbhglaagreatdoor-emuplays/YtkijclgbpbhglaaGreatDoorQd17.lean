/-
  Contracts and plain mathematics of PFeed, URef2, URef3.
-/
import Derived.Test.YtkijclgbpbhglaaGreatDoorQd16
import Derived.Test.YtkijclgbpbhglaaGreatDoorQd13
import Derived.Test.YtkijclgbpbhglaaGreatDoorQd3
namespace Go.Proofs.YtkijclgbpbhglaaGreatDoor
set_option maxRecDepth 100000
set_option linter.unusedVariables false
set_option maxHeartbeats 8000000
section
open Go.ChangeShapes Go.WideShapes Go.ChangeAt Go.RowKit
theorem onto_any (gL : Nat) (w : World) : Calls Tryz.prog 81 #[.pointer (some ⟨gL, 0, none⟩)] w fun e w' => e = .returned (.func (.func 132) #[] #[.pointer (some ⟨w.heap.size, 0, none⟩)]) ∧ w' = w.alloc (.cells #[.pointer (some ⟨gL, 0, none⟩)] 142) := by
 go_enter Tryz.func81, Tryz.ntmps81
 go_wp2; go_ret
 exact ⟨rfl, rfl⟩
section
variable {B gB gL g : Nat} {w : World} {p : Ps} {es : List Ev}
theorem pnumber_any (h : Pr w g p) (h3 : p.st = 3) (ht : Tel B w gB gL es) (hg : g < B) (hl : es.length ≤ 10000) (b : Int) (b0 : 32 ≤ b) (b1 : b < 127) : Calls Tryz.prog 87 #[.pointer (some ⟨g, 0, none⟩), .int .u8 b, .func (.func 132) #[] #[.pointer (some ⟨gB, 0, none⟩)]] w fun e w' => e = .returned (.int .i64 (stepP p b).1.st) ∧ Pr w' g ⟨p.st, (stepP p b).1.n, (stepP p b).1.h⟩ ∧ Tel B w' gB gL (es ++ (stepP p b).2) ∧ Fr B g w w' := by
 have lt := h.lt
 have HP := hide h; have HT := hide ht
 have hle := ht.le
 clear h ht
 rcases (by omega : (48 ≤ b ∧ b ≤ 57) ∨ b = 59 ∨ 64 ≤ b ∨ (b < 64 ∧ ¬ (48 ≤ b ∧ b ≤ 57) ∧ b ≠ 59)) with ⟨h1, h2⟩ | h1 | h1 | ⟨h1, h2, h4⟩
 ·rw [step_dig h1 h2 h3]
  simp only [List.append_nil]
  clear h3
  go_enter Tryz.func87, Tryz.ntmps87
  go_wp2_with fail
  refine (adigit_any HP.out (b - 48) (by omega) (by omega)).mono ?_
  rintro e w1 ⟨rfl, hp, hf⟩
  have HP1 := hide hp; have HF := hide hf; clear hp hf; go_wp2; go_ret
  exact ⟨rfl, HP1.out, HT.out.fr HP.out HF.out, HF.out.less hle⟩
 ·subst h1
  rw [step_semi rfl h3]
  simp only [List.append_nil]
  clear h3
  go_enter Tryz.func87, Tryz.ntmps87
  go_wp2_with fail
  refine (asplit_any HP.out).mono ?_
  rintro e w1 ⟨rfl, hp, hf⟩
  have HP1 := hide hp; have HF := hide hf; clear hp hf; go_wp2; go_ret
  exact ⟨rfl, HP1.out, HT.out.fr HP.out HF.out, HF.out.less hle⟩
 ·rw [step_fin h1 b1 h3]
  simp only
  have h59 : (b == 59) = false := by simp; omega
  have h57 : 57 < b := by omega
  have h48 : 48 ≤ b := by omega
  have b2 : b ≤ 255 := by omega
  have HFI : Hid (finB b = true) := by unfold Hid finB; simp; omega
  have HTOLD := hide (atold_any HP.out)
  generalize p.n.take 8 = xs at *
  obtain ⟨m, hm⟩ := exq (xs.length)
  have HM := hide hm; clear h3 hm
  go_enter Tryz.func87, Tryz.ntmps87
  go_wp2_with fail
  refine (final_any b w (by omega) b2).mono ?_
  rintro e w1 ⟨rfl, rfl⟩
  rw [HFI.out]
  go_wp2_with fail
  refine (HTOLD.out).mono ?_
  rintro e w1 ⟨v, rfl, hov⟩
  obtain ⟨A, c, rfl, hi, -, -, -⟩ := hov.typed (C := 0)
  rw [HM.out]
  have HB := hide hov.bel; have HI := hide hi; clear hov hi HTOLD; go_wp2_with fail
  refine (tell1_any B gB gL es w1 (HT.out.later HB.out) 3 b A m c xs HM.out HI.out (by omega)).mono ?_
  rintro e w2 ⟨rfl, hto⟩
  have HTO := hide hto; clear hto; go_wp2; go_ret
  exact ⟨rfl, HTO.out.prs (HP.out.later HB.out), HTO.out.tel, (Fr.of_below (HB.out.mono hle)).trans (Fr.of_below HTO.out.bel)⟩
 ·rw [step_idle b0 h1 (by omega) h4 h3]
  simp only [List.append_nil]
  have h59 : (b == 59) = false := by simp; omega
  have b2 : b ≤ 255 := by omega
  have HFI : Hid (finB b = false) := by unfold Hid finB; simp; omega
  clear h3
  rcases (by omega : b < 48 ∨ (48 ≤ b ∧ 57 < b)) with h5 | ⟨h5, h6⟩
  all_goals
   go_enter Tryz.func87, Tryz.ntmps87
   go_wp2_with fail
   refine (final_any b w (by omega) b2).mono ?_
   rintro e w1 ⟨rfl, rfl⟩
   rw [HFI.out]
   go_wp2; go_ret
   exact ⟨rfl, HP.out, HT.out, Fr.refl⟩
end
theorem pfeed_any (g : Nat) (p : Ps) (bs : List Int) (A : Option Addr) (n c : Nat) (w : World) (h : Pr w g p) (hok : PsOk p) (hby : Byte bs) (hi : Ints .u8 w A bs) (hn : bs.length = n) (hl : n ≤ 1000) (hA : ∀ ad, A = some ad → 0 < n → ad.block ≠ g) :
  Calls Tryz.prog 45 #[.pointer (some ⟨g, 0, none⟩), .slice A n c] w fun e w' => ∃ v, e = .returned v ∧ OwnE 0 56 .i32 w.heap.size w' w' v (feedP p bs).2 ∧ Pr w' g (feedP p bs).1 ∧ Fr w.heap.size g w w' := by
 obtain ⟨w0, hw0⟩ := exq (w.alloc (.cells #[.slice none 0 0] 54))
 obtain ⟨W, hW⟩ := exq (w0.alloc (.cells #[.pointer (some ⟨w.heap.size, 0, none⟩)] 142))
 have hb0 : Below w.heap.size w w0 := by rw [← hw0]; exact (Below.refl _ _).alloc (Nat.le_refl _) _
 have hb1 : Below w0.heap.size w0 W := by rw [← hW]; exact (Below.refl _ _).alloc (Nat.le_refl _) _
 have HB : Hid (Below w.heap.size w W) := hb0.trans (hb1.mono hb0.size)
 obtain ⟨gL, hgL⟩ := exq (w.heap.size)
 obtain ⟨gB, hgB⟩ := exq (w0.heap.size)
 have HTel : Hid (Tel w.heap.size W gB gL []) := by
  refine ⟨?_, ⟨.slice none 0 0, ?_, OwnE.start HB.out.size (Nat.zero_le _)⟩, ?_, by omega⟩
  ·rw [← hgB, ← hgL, ← hW]; exact Whole.new w0 142 _
  ·have : Whole w0 gL 54 [.slice none 0 0] := by rw [← hgL, ← hw0]; exact Whole.new w 54 _
   exact this.later hb1
  ·rw [← hgB]; exact hb0.size
 have HP0 := hide (h.later HB.out)
 have HOK0 := hide hok; have HN := hide hn; have HA := hide hA
 have hgB' : g < w.heap.size := h.lt
 have HW0 := hide hw0; have HW := hide hW; have HGL := hide hgL; have HGB := hide hgB; clear hw0 hW hb0 hb1 hgL hgB h hok hn hA
 have hgB := hgB'
 clear hgB'
 go_enter Tryz.func45, Tryz.ntmps45
 go_wp2
 go_step3
 go_wp2_with fail
 rw [HW0.out]
 refine (onto_any w.heap.size w0).mono ?_
 rintro e w1 ⟨rfl, rfl⟩
 rw [HW.out, HGB.out]
 go_wp2
 go_step3
 go_wp2
 go_loopw [8, 9, 15] (fun _ _ i wr => ∃ k : Nat, k ≤ n ∧ i = .int .i64 k ∧ Pr wr g (feedP p (bs.take k)).1 ∧ Tel w.heap.size wr gB gL (feedP p (bs.take k)).2 ∧ Fr w.heap.size g w wr) (fun _ _ i _ => n - (intOf i).toNat)
 case atStart =>
  exact ⟨0, Nat.zero_le _, rfl, HP0.out, HTel.out, Fr.of_below HB.out⟩
 case round =>
  obtain ⟨k, hk, rfl, hp, ht, hfr⟩ := hrel
  by_cases hlt : k < n
  ·obtain ⟨bb, off, rfl, hc, hb0⟩ := hi.at (i := k) (by rw [HN.out]; exact hlt)
   have hbg := HA.out _ rfl (by omega)
   have hbr := hby _ (getD_mem bs k (by rw [HN.out]; exact hlt))
   obtain ⟨b, hb⟩ := exq (bs.getD k 0)
   have hcw : wr.cell? ⟨bb, off + k, none⟩ = some (.int .u8 b) := by
    have e : wr.cell? ⟨bb, off + k, none⟩ = w.cell? ⟨bb, off + k, none⟩ := by simp only [World.cell?, hfr.block bb hb0 hbg]
    rw [e, hc, hb]
   rw [hb] at hbr
   obtain ⟨b0, b1⟩ := hbr
   have hff := feed_facts (bs.take k) p HOK0.out (hby.take k)
   have HNX : Hid (feedP p (bs.take (k + 1)) = ((stepP (feedP p (bs.take k)).1 b).1, (feedP p (bs.take k)).2 ++ (stepP (feedP p (bs.take k)).1 b).2)) := by
    unfold Hid
    rw [take_snoc bs k b (by rw [HN.out]; exact hlt) hb, feed_snoc]
   obtain ⟨q, es, hqe⟩ : ∃ q es, feedP p (bs.take k) = (q, es) := ⟨_, _, rfl⟩
   rw [hqe] at hp ht hff HNX
   simp only at hp ht hff HNX
   obtain ⟨hok, -, hle⟩ := hff
   have hle2 : es.length ≤ 4000 := by rw [List.length_take] at hle; omega
   have c15 := hp.st
   have z15 := hp.frozen 15
   have l15 := hp.lt
   have s0 := hok.st0
   have s4 := hok.st4
   have HP := hide hp; have HT := hide ht; have HF := hide hfr; have HOK := hide hok; clear hp ht hfr hok hc hb hqe hle
   rcases (by omega : (b = 24) ∨ (b = 26) ∨ (b = 27) ∨ (b = 127) ∨ (b < 32 ∧ b ≠ 24 ∧ b ≠ 26 ∧ b ≠ 27) ∨ (128 ≤ b) ∨ ((32 ≤ b ∧ b < 127) ∧ q.st = 0) ∨ ((32 ≤ b ∧ b < 127) ∧ q.st = 1) ∨ ((32 ≤ b ∧ b < 127) ∧ q.st = 2) ∨ ((32 ≤ b ∧ b < 127) ∧ q.st = 3) ∨ ((32 ≤ b ∧ b < 127) ∧ q.st = 4)) with hb | hb | hb | hb | hb | hb | hb | hb | hb | hb | hb
   ·subst hb
    have HST := hide (step_cancel (p := q) (b := 24) (by omega))
    go_wp2_with fail
    refine (pend_any HP.out HT.out hgB (by omega)).mono ?_
    rintro e w1 ⟨rfl, hp, ht, hf⟩
    have HP1 := hide hp; have HT1 := hide ht
    have HF1 := hide (HF.out.trans hf)
    clear hp ht hf c15 z15 l15 HP HT HF; go_wp2_with fail
    refine (tell1_any _ gB gL _ w1 HT1.out 2 24 none 0 0 [] rfl .nil (by rw [List.length_append]; have := brk_len q.h; omega)).mono ?_
    rintro e w2 ⟨rfl, hto⟩
    have HP2 := hide (hto.prs HP1.out)
    have HT2 := hide hto.tel
    have HF2 := hide (HF1.out.trans (Fr.of_below hto.bel))
    clear hto HP1 HT1 HF1
    have c9 := HP2.out.st
    have z9 := HP2.out.frozen 15
    have l9 := HP2.out.lt
    try simp only at c9
    go_wp2
    go_roundw
    case rel =>
     have hf9 : Fr w2.heap.size g w2 (w2.setCell ⟨g, 15, none⟩ (.int .i64 (0))) := Fr.put 15 _
     refine ⟨k + 1, by omega, by go_num, ?_, ?_, HF2.out.trans (Fr.put 15 _)⟩
     ·rw [HNX.out, HST.out]; exact HP2.out.setst (0)
     ·rw [HNX.out, HST.out]; have := HT2.out.fr HP2.out hf9; simpa using this
    case measure => simp [intOf]; omega
   ·subst hb
    have HST := hide (step_cancel (p := q) (b := 26) (by omega))
    go_wp2_with fail
    refine (pend_any HP.out HT.out hgB (by omega)).mono ?_
    rintro e w1 ⟨rfl, hp, ht, hf⟩
    have HP1 := hide hp; have HT1 := hide ht
    have HF1 := hide (HF.out.trans hf)
    clear hp ht hf c15 z15 l15 HP HT HF; go_wp2_with fail
    refine (tell1_any _ gB gL _ w1 HT1.out 2 26 none 0 0 [] rfl .nil (by rw [List.length_append]; have := brk_len q.h; omega)).mono ?_
    rintro e w2 ⟨rfl, hto⟩
    have HP2 := hide (hto.prs HP1.out)
    have HT2 := hide hto.tel
    have HF2 := hide (HF1.out.trans (Fr.of_below hto.bel))
    clear hto HP1 HT1 HF1
    have c9 := HP2.out.st
    have z9 := HP2.out.frozen 15
    have l9 := HP2.out.lt
    try simp only at c9
    go_wp2
    go_roundw
    case rel =>
     have hf9 : Fr w2.heap.size g w2 (w2.setCell ⟨g, 15, none⟩ (.int .i64 (0))) := Fr.put 15 _
     refine ⟨k + 1, by omega, by go_num, ?_, ?_, HF2.out.trans (Fr.put 15 _)⟩
     ·rw [HNX.out, HST.out]; exact HP2.out.setst (0)
     ·rw [HNX.out, HST.out]; have := HT2.out.fr HP2.out hf9; simpa using this
    case measure => simp [intOf]; omega
   ·subst hb
    have HST := hide (step_esc (p := q) (b := 27) rfl)
    go_wp2_with fail
    refine (pend_any HP.out HT.out hgB (by omega)).mono ?_
    rintro e w1 ⟨rfl, hp, ht, hf⟩
    have HP1 := hide hp; have HT1 := hide ht
    have HF1 := hide (HF.out.trans hf)
    clear hp ht hf c15 z15 l15 HP HT HF; go_wp2_with fail
    refine (anone_any HP1.out).mono ?_
    rintro e w2 ⟨rfl, hp, hf⟩
    have HP2 := hide hp
    have HT2 := hide (HT1.out.fr HP1.out hf)
    have HF2 := hide (HF1.out.trans (hf.less HT1.out.le))
    clear hp hf HP1 HT1 HF1
    have c9 := HP2.out.st
    have z9 := HP2.out.frozen 15
    have l9 := HP2.out.lt
    try simp only at c9
    go_wp2
    go_roundw
    case rel =>
     have hf9 : Fr w2.heap.size g w2 (w2.setCell ⟨g, 15, none⟩ (.int .i64 (1))) := Fr.put 15 _
     refine ⟨k + 1, by omega, by go_num, ?_, ?_, HF2.out.trans (Fr.put 15 _)⟩
     ·rw [HNX.out, HST.out]; exact HP2.out.setst (1)
     ·rw [HNX.out, HST.out]; have := HT2.out.fr HP2.out hf9; simpa using this
    case measure => simp [intOf]; omega
   ·subst hb
    have HST := hide (step_ctl (p := q) (b := 127) (by omega) (by omega) (by omega) (by omega))
    go_wp2_with fail
    refine (pend_any HP.out HT.out hgB (by omega)).mono ?_
    rintro e w1 ⟨rfl, hp, ht, hf⟩
    have HP1 := hide hp; have HT1 := hide ht
    have HF1 := hide (HF.out.trans hf)
    clear hp ht hf c15 z15 l15 HP HT HF; go_wp2_with fail
    refine (tell1_any _ gB gL _ w1 HT1.out 2 127 none 0 0 [] rfl .nil (by rw [List.length_append]; have := brk_len q.h; omega)).mono ?_
    rintro e w2 ⟨rfl, hto⟩
    have HP2 := hide (hto.prs HP1.out)
    have HT2 := hide hto.tel
    have HF2 := hide (HF1.out.trans (Fr.of_below hto.bel))
    clear hto HP1 HT1 HF1; go_wp2
    go_roundw
    case rel =>
     refine ⟨k + 1, by omega, by go_num, ?_, ?_, HF2.out⟩
     ·rw [HNX.out, HST.out]; exact HP2.out
     ·rw [HNX.out, HST.out]; have := HT2.out; simpa using this
    case measure => simp [intOf]; omega
   ·obtain ⟨h32, n24, n26, n27⟩ := hb
    have h24 : (b == 24) = false := by simp; omega
    have h26 : (b == 26) = false := by simp; omega
    have h27 : (b == 27) = false := by simp; omega
    have HST := hide (step_ctl (p := q) (b := b) n24 n26 n27 (by omega))
    go_wp2_with fail
    refine (pend_any HP.out HT.out hgB (by omega)).mono ?_
    rintro e w1 ⟨rfl, hp, ht, hf⟩
    have HP1 := hide hp; have HT1 := hide ht
    have HF1 := hide (HF.out.trans hf)
    clear hp ht hf c15 z15 l15 HP HT HF; go_wp2_with fail
    refine (tell1_any _ gB gL _ w1 HT1.out 2 b none 0 0 [] rfl .nil (by rw [List.length_append]; have := brk_len q.h; omega)).mono ?_
    rintro e w2 ⟨rfl, hto⟩
    have HP2 := hide (hto.prs HP1.out)
    have HT2 := hide hto.tel
    have HF2 := hide (HF1.out.trans (Fr.of_below hto.bel))
    clear hto HP1 HT1 HF1; go_wp2
    go_roundw
    case rel =>
     refine ⟨k + 1, by omega, by go_num, ?_, ?_, HF2.out⟩
     ·rw [HNX.out, HST.out]; exact HP2.out
     ·rw [HNX.out, HST.out]; have := HT2.out; simpa using this
    case measure => simp [intOf]; omega
   ·have h24 : (b == 24) = false := by simp; omega
    have h26 : (b == 26) = false := by simp; omega
    have h27 : (b == 27) = false := by simp; omega
    have h127 : (b == 127) = false := by simp; omega
    have HST := hide (step_take (p := q) (b := b) (by omega) (by omega) (by omega))
    go_wp2_with fail
    refine (ptake_any HP.out HOK.out HT.out hgB (by omega) b b0 b1).mono ?_
    rintro e w1 ⟨rfl, hp, ht, hf⟩
    have HP1 := hide hp; have HT1 := hide ht
    have HF1 := hide (HF.out.trans hf)
    clear hp ht hf c15 z15 l15 HP HT HF
    have c9 := HP1.out.st
    have z9 := HP1.out.frozen 15
    have l9 := HP1.out.lt
    try simp only at c9
    go_wp2
    go_roundw
    case rel =>
     have hf9 : Fr w1.heap.size g w1 (w1.setCell ⟨g, 15, none⟩ (.int .i64 (0))) := Fr.put 15 _
     refine ⟨k + 1, by omega, by go_num, ?_, ?_, HF1.out.trans (Fr.put 15 _)⟩
     ·rw [HNX.out, HST.out]; exact HP1.out.setst (0)
     ·rw [HNX.out, HST.out]; have := HT1.out.fr HP1.out hf9; simpa using this
    case measure => simp [intOf]; omega
   ·obtain ⟨⟨h32, h127l⟩, hs⟩ := hb
    have h128 : b < 128 := by omega
    have h24 : (b == 24) = false := by simp; omega
    have h26 : (b == 26) = false := by simp; omega
    have h27 : (b == 27) = false := by simp; omega
    have h127 : (b == 127) = false := by simp; omega
    have HST := hide (step_take (p := q) (b := b) (by omega) (by omega) (.inr hs))
    rw [hs] at c15
    go_wp2_with fail
    refine (ptake_any HP.out HOK.out HT.out hgB (by omega) b b0 b1).mono ?_
    rintro e w1 ⟨rfl, hp, ht, hf⟩
    have HP1 := hide hp; have HT1 := hide ht
    have HF1 := hide (HF.out.trans hf)
    clear hp ht hf c15 z15 l15 HP HT HF
    have c9 := HP1.out.st
    have z9 := HP1.out.frozen 15
    have l9 := HP1.out.lt
    try simp only at c9
    go_wp2
    go_roundw
    case rel =>
     have hf9 : Fr w1.heap.size g w1 (w1.setCell ⟨g, 15, none⟩ (.int .i64 (0))) := Fr.put 15 _
     refine ⟨k + 1, by omega, by go_num, ?_, ?_, HF1.out.trans (Fr.put 15 _)⟩
     ·rw [HNX.out, HST.out]; exact HP1.out.setst (0)
     ·rw [HNX.out, HST.out]; have := HT1.out.fr HP1.out hf9; simpa using this
    case measure => simp [intOf]; omega
   ·obtain ⟨⟨h32, h127l⟩, hs⟩ := hb
    have h128 : b < 128 := by omega
    have h24 : (b == 24) = false := by simp; omega
    have h26 : (b == 26) = false := by simp; omega
    have h27 : (b == 27) = false := by simp; omega
    have h127 : (b == 127) = false := by simp; omega
    have HST := hide (step_s1 (p := q) (b := b) (by omega) (by omega) hs)
    rw [hs] at c15
    go_wp2_with fail
    refine (besc_any b wr (by omega) (by omega)).mono ?_
    rintro e w1 ⟨rfl, rfl⟩
    generalize bescN b = x at *
    have c9 := HP.out.st
    have z9 := HP.out.frozen 15
    have l9 := HP.out.lt
    try simp only at c9
    go_wp2
    go_roundw
    case rel =>
     have hf9 : Fr wr.heap.size g wr (wr.setCell ⟨g, 15, none⟩ (.int .i64 (x))) := Fr.put 15 _
     refine ⟨k + 1, by omega, by go_num, ?_, ?_, HF.out.trans (Fr.put 15 _)⟩
     ·rw [HNX.out, HST.out]; exact HP.out.setst (x)
     ·rw [HNX.out, HST.out]; have := HT.out.fr HP.out hf9; simpa using this
    case measure => simp [intOf]; omega
   ·obtain ⟨⟨h32, h127l⟩, hs⟩ := hb
    have h128 : b < 128 := by omega
    have h24 : (b == 24) = false := by simp; omega
    have h26 : (b == 26) = false := by simp; omega
    have h27 : (b == 27) = false := by simp; omega
    have h127 : (b == 127) = false := by simp; omega
    have HST := hide (step_s2 (p := q) (b := b) (by omega) (by omega) hs)
    rw [hs] at c15
    go_wp2_with fail
    refine (bbet_any b wr (by omega) (by omega)).mono ?_
    rintro e w1 ⟨rfl, rfl⟩
    generalize bbetN b = x at *
    have c9 := HP.out.st
    have z9 := HP.out.frozen 15
    have l9 := HP.out.lt
    try simp only at c9
    go_wp2
    go_roundw
    case rel =>
     have hf9 : Fr wr.heap.size g wr (wr.setCell ⟨g, 15, none⟩ (.int .i64 (x))) := Fr.put 15 _
     refine ⟨k + 1, by omega, by go_num, ?_, ?_, HF.out.trans (Fr.put 15 _)⟩
     ·rw [HNX.out, HST.out]; exact HP.out.setst (x)
     ·rw [HNX.out, HST.out]; have := HT.out.fr HP.out hf9; simpa using this
    case measure => simp [intOf]; omega
   ·obtain ⟨⟨h32, h127l⟩, hs⟩ := hb
    have h128 : b < 128 := by omega
    have h24 : (b == 24) = false := by simp; omega
    have h26 : (b == 26) = false := by simp; omega
    have h27 : (b == 27) = false := by simp; omega
    have h127 : (b == 127) = false := by simp; omega
    have HS3 := hide hs
    rw [hs] at c15
    go_wp2_with fail
    refine (pnumber_any HP.out HS3.out HT.out hgB (by omega) b (by omega) (by omega)).mono ?_
    rintro e w1 ⟨rfl, hp, ht, hf⟩
    have HP1 := hide hp; have HT1 := hide ht
    have HF1 := hide (HF.out.trans hf)
    clear hp ht hf c15 z15 l15 HP HT HF
    obtain ⟨x, hx⟩ := exq ((stepP q b).1.st)
    rw [hx]
    have HX := hide hx; clear hx
    have c9 := HP1.out.st
    have z9 := HP1.out.frozen 15
    have l9 := HP1.out.lt
    try simp only at c9
    go_wp2
    go_roundw
    case rel =>
     have hf9 : Fr w1.heap.size g w1 (w1.setCell ⟨g, 15, none⟩ (.int .i64 x)) := Fr.put 15 _
     refine ⟨k + 1, by omega, by go_num, ?_, ?_, HF1.out.trans (Fr.put 15 _)⟩
     ·rw [HNX.out]; have := HP1.out.setst x; rw [← HX.out] at this ⊢; exact this
     ·rw [HNX.out]; exact HT1.out.fr HP1.out hf9
    case measure => simp [intOf]; omega
   ·obtain ⟨⟨h32, h127l⟩, hs⟩ := hb
    have h128 : b < 128 := by omega
    have h24 : (b == 24) = false := by simp; omega
    have h26 : (b == 26) = false := by simp; omega
    have h27 : (b == 27) = false := by simp; omega
    have h127 : (b == 127) = false := by simp; omega
    by_cases h64 : 64 ≤ b
    ·have HST := hide (step_s4 (p := q) (b := b) (by omega) (by omega) hs)
     have HFI : Hid (finB b = true) := by unfold Hid finB; simp; omega
     rw [if_pos h64] at HST
     rw [hs] at c15
     go_wp2_with fail
     refine (final_any b wr b0 b1).mono ?_
     rintro e w1 ⟨rfl, rfl⟩
     rw [HFI.out]
     have c9 := HP.out.st
     have z9 := HP.out.frozen 15
     have l9 := HP.out.lt
     try simp only at c9
     go_wp2
     go_roundw
     case rel =>
      have hf9 : Fr wr.heap.size g wr (wr.setCell ⟨g, 15, none⟩ (.int .i64 (0))) := Fr.put 15 _
      refine ⟨k + 1, by omega, by go_num, ?_, ?_, HF.out.trans (Fr.put 15 _)⟩
      ·rw [HNX.out, HST.out]; exact HP.out.setst (0)
      ·rw [HNX.out, HST.out]; have := HT.out.fr HP.out hf9; simpa using this
     case measure => simp [intOf]; omega
    ·have HST := hide (step_s4 (p := q) (b := b) (by omega) (by omega) hs)
     have HFI : Hid (finB b = false) := by unfold Hid finB; simp; omega
     rw [if_neg h64, ← hs] at HST
     rw [hs] at c15
     go_wp2_with fail
     refine (final_any b wr b0 b1).mono ?_
     rintro e w1 ⟨rfl, rfl⟩
     rw [HFI.out]
     go_wp2
     go_roundw
     case rel =>
      refine ⟨k + 1, by omega, by go_num, ?_, ?_, HF.out⟩
      ·rw [HNX.out, HST.out]; exact HP.out
      ·rw [HNX.out, HST.out]; have := HT.out; simpa using this
     case measure => simp [intOf]; omega
  ·have HTK : Hid (bs.take k = bs) := by unfold Hid; exact List.take_of_length_le (by rw [HN.out]; omega)
   rw [HTK.out] at hp ht
   obtain ⟨v, hv, ho⟩ := ht.var
   have c1 : wr.cell? ⟨gL, 0, none⟩ = some v := hv.cell 0
   have l1 := hv.lt
   obtain ⟨A9, n9, c9, rfl⟩ := ho.slice
   have HP := hide hp; have HO := hide ho; have HF := hide hfr
   rw [HGL.out]
   clear hp ht hfr ho hv; go_wp2
   rw [Exit.noGoto_ret]
   go_ret
   exact ⟨_, rfl, HO.out, HP.out, HF.out⟩
def begB (p : List Int) : Bool := decide (fit p = p.length)
theorem beg_iff (p : List Int) (hp : p ≠ []) (hb : Byte p) : begB p = true ↔ ((∃ m, 0 ≤ m ∧ m ≤ 55295 ∧ p <+: encS m) ∨ ∃ m, 57344 ≤ m ∧ m ≤ 1114111 ∧ p <+: encS m) := by
 cases p with
 | nil => exact absurd rfl hp
 | cons c r =>
  unfold begB
  rw [decide_eq_true_iff, ← begins_iff c r (hb c (by simp)).1]
  constructor
  ·rintro ⟨m, h1, h2⟩
   rw [isSc_iff] at h1
   by_cases h : m ≤ 55295
   ·exact .inl ⟨m, by omega, h, h2⟩
   ·exact .inr ⟨m, by omega, by omega, h2⟩
  ·rintro (⟨m, h1, h2, h3⟩ | ⟨m, h1, h2, h3⟩)
   ·exact ⟨m, by rw [isSc_iff]; omega, h3⟩
   ·exact ⟨m, by rw [isSc_iff]; omega, h3⟩
theorem beg_len (p : List Int) (h : 4 < p.length) : begB p = false := by
 cases p with
 | nil => simp at h
 | cons c r =>
  have := fit_sz c r
  have := sz_le c
  unfold begB; rw [decide_eq_false_iff_not]; omega
theorem begins_any (A : Option Addr) (n c : Nat) (p : List Int) (w : World) (hp : Ints .u8 w A p) (hn : p.length = n) (hl : n ≤ 1000000) (bp : Byte p) (h0 : 0 < n) :
  Calls Tryz.prog 190 #[.slice A n c] w (Said (begB p) w) := by
 have hne : p ≠ [] := by rintro rfl; simp at hn; omega
 have HI := hide (beg_iff p hne bp)
 have HF := hide (beg_len p)
 have HN := hide hn; clear hn hne
 by_cases h4 : n ≤ 4
 ·go_enter Tryz.func190, Tryz.ntmps190
  go_wp2_with fail
  refine (uwithin_any A n c p 0 55295 w hp HN.out hl bp (by omega) (by omega) (by omega) (by omega)).mono ?_
  rintro e w1 ⟨b1, rfl, hb1, hbel⟩
  cases b1 with
  | true =>
   have HB := hide (HI.out.2 (.inl (hb1.1 rfl)))
   clear hb1; go_wp2; go_ret
   exact ⟨ret_bool HB.out.symm, hbel⟩
  | false =>
   have HB1 : Hid (¬ ∃ m, 0 ≤ m ∧ m ≤ 55295 ∧ p <+: encS m) := fun h => by have := hb1.2 h; cases this
   clear hb1; go_wp2_with fail
   refine (uwithin_any A n c p 57344 1114111 w1 (hp.below hbel) HN.out hl bp (by omega) (by omega) (by omega) (by omega)).mono ?_
   rintro e w2 ⟨b2, rfl, hb2, hbel2⟩
   have HB2 := hide hb2; clear hb2; go_wp2; go_ret
   refine ⟨ret_bool ?_, hbel.trans (hbel2.mono hbel.size)⟩
   rw [Bool.eq_iff_iff, HB2.out, HI.out]
   constructor
   ·exact .inr
   ·rintro (h | h)
    ·exact absurd h HB1.out
    ·exact h
 ·have h4' : decide ((n : Int) ≤ 4) = false := by simp; omega
  go_enter Tryz.func190, Tryz.ntmps190
  go_wp2; go_ret
  exact ⟨ret_bool (HF.out (by rw [HN.out]; omega)).symm, Below.refl _ _⟩
def Both (r : Int) (b : Bool) (w : World) (e : Ending) (w' : World) : Prop := e = .returned (.tuple #[.int .i64 r, .bool b]) ∧ Below w.heap.size w w'
def wholeB (p : List Int) : Bool := isSc (joinV p) && decide (encS (joinV p) = p)
theorem rscal1 (A : Option Addr) (a : Int) (c : Nat) (w : World) (hp : Ints .u8 w A [a]) (hy : Byte [a]) : Calls Tryz.prog 191 #[.slice A 1 c] w (Both (joinV [a]) (wholeB [a]) w) := by
 obtain ⟨B, off, rfl, c0, hB⟩ := hp.at (i := 0) (by simp)
 simp only [List.getD_cons_zero, Nat.add_zero] at c0
 have y0 : 0 ≤ a ∧ a ≤ 255 := hy a (by simp)
 obtain ⟨l0, m0⟩ := y0
 have HY := hide hy; clear hy
 have HW : Hid (wholeB [a] = (isSc a && decide (encS a = [a]))) := by unfold Hid; rfl
 have HJ : Hid (joinV [a] = a) := by unfold Hid; rfl
 by_cases hs : isSc a = true
 ·have hs' := hs
  clear hs
  have HS : Hid (∀ w', Below w.heap.size w w' → (convert 34 9 (.slice (some ⟨B, off, none⟩) 1 c)).run Tryz.prog w' = .ok (.string (strOf [a])) w') := fun w' h =>
   run_strOf (P := Tryz.prog) w' 34 9 5 Tryz.underlying34 Tryz.underlying5 Tryz.underlying9 _ c [a] (hp.below h) HY.out
  go_enter Tryz.func191, Tryz.ntmps191
  go_wp2
  refine rgH (fun w' => Below w.heap.size w w') [(true, 0), (false, 1), (false, 2), (false, 3), (true, 4), (true, 7), (true, 8), (false, 5), (true, 11), (false, 6), (false, 9), (false, 10), (false, 12)] (bd1) ?_
  refine stH (h := ?_)
  refine alH fun K hK => ?_
  go_wp2
  refine hK.out _ _ bd1 ?_
  clear hK K
  refine alH fun K hK => ?_
  go_wp2_with fail
  refine (rscalar_any _ _).mono ?_
  rintro e w' ⟨rfl, rfl⟩
  go_wp2
  refine hK.out _ _ bd1 ?_
  clear hK K
  refine alH fun K hK => ?_
  go_wp2
  refine hK.out _ _ bd1 ?_
  clear hK K
  refine stH (h := ?_)
  refine stH (h := ?_)
  refine stH (hy := fun w hS => by have := HS.out w hS; go_simp <;> with_reducible rfl) (h := ?_)
  refine alH fun K hK => ?_
  go_wp2_with fail
  refine (rbytes_sc _ _ hs').mono ?_
  rintro e w1 ⟨v, rfl, hv⟩
  obtain ⟨A1, c1, rfl, hi1, hc1, hA1⟩ := hv.form
  have hb2 : Below w.heap.size w w1 := bd1.trans (hv.bel.mono (Nat.le_refl _))
  have r2 := run_strOf (P := Tryz.prog) w1 34 9 5 Tryz.underlying34 Tryz.underlying5 Tryz.underlying9 A1 c1 _ hi1 (encS_byte _ hs')
  go_wp2
  refine hK.out _ _ hb2 ?_
  clear hK K
  refine stH (h := ?_)
  refine alH fun K hK => ?_
  go_wp2
  refine hK.out _ _ hb2 ?_
  clear hK K
  refine alH fun K hK => ?_
  go_wp2
  refine hK.out _ _ hb2 ?_
  clear hK K
  refine alH fun K hK => ?_
  go_wp2
  refine hK.out _ _ hb2 ?_
  clear hK K
  refine alH fun K hK => ?_
  go_wp2
  refine hK.out _ _ hb2 ?_
  clear hK K
  refine chainH_nil ?_
  go_wp2; go_ret2
  exact ⟨by rw [HJ.out, HW.out, hs', strOf_beq _ _ (encS_byte _ hs') HY.out, Bool.true_and]; rfl, hb2⟩
 ·have hs' : isSc a = false := by simpa using hs
  clear hs
  go_enter Tryz.func191, Tryz.ntmps191
  go_wp2
  go_quiet ((go_at_call 158; exact Calls.quiet_of_same ((rscalar_any _ _).mono fun e w' h => ⟨h.1, h.2.symm⟩)))
  go_wp2; go_ret2
  exact ⟨by rw [HJ.out, HW.out, hs', Bool.false_and]; rfl, (Below.refl _ _).drewN _⟩
theorem rscal2 (A : Option Addr) (a b : Int) (c : Nat) (w : World) (hp : Ints .u8 w A [a, b]) (hy : Byte [a, b]) : Calls Tryz.prog 191 #[.slice A 2 c] w (Both (joinV [a, b]) (wholeB [a, b]) w) := by
 obtain ⟨B, off, rfl, c0, hB⟩ := hp.at (i := 0) (by simp)
 obtain ⟨B1, off1, q1, c1, _⟩ := hp.at (i := 1) (by simp)
 cases q1
 simp only [List.getD_cons_zero, Nat.add_zero] at c0
 have y0 : 0 ≤ a ∧ a ≤ 255 := hy a (by simp)
 obtain ⟨l0, m0⟩ := y0
 simp only [List.getD_cons_zero, List.getD_cons_succ] at c1
 have y1 : 0 ≤ b ∧ b ≤ 255 := hy b (by simp)
 obtain ⟨l1, m1⟩ := y1
 have HY := hide hy; clear hy
 obtain ⟨R, hR⟩ : ∃ R, R = (a - 192) * 64 + b - 128 := ⟨_, rfl⟩
 have HW : Hid (wholeB [a, b] = (isSc R && decide (encS R = [a, b]))) := by unfold Hid; rw [hR]; rfl
 have HJ : Hid (joinV [a, b] = R) := by unfold Hid; rw [hR]; rfl
 have HR := hide hR; clear hR
 by_cases hs : isSc R = true
 ·have hs' := hs
  clear hs
  have HS : Hid (∀ w', Below w.heap.size w w' → (convert 34 9 (.slice (some ⟨B, off, none⟩) 2 c)).run Tryz.prog w' = .ok (.string (strOf [a, b])) w') := fun w' h =>
   run_strOf (P := Tryz.prog) w' 34 9 5 Tryz.underlying34 Tryz.underlying5 Tryz.underlying9 _ c [a, b] (hp.below h) HY.out
  go_enter Tryz.func191, Tryz.ntmps191
  go_wp2
  rw [← HR.out]
  refine rgH (fun w' => Below w.heap.size w w') [(true, 0), (false, 1), (false, 2), (false, 3), (true, 4), (true, 7), (true, 8), (false, 5), (true, 11), (false, 6), (false, 9), (false, 10), (false, 12)] (bd1) ?_
  refine stH (h := ?_)
  refine alH fun K hK => ?_
  go_wp2
  refine hK.out _ _ bd1 ?_
  clear hK K
  refine alH fun K hK => ?_
  go_wp2_with fail
  refine (rscalar_any _ _).mono ?_
  rintro e w' ⟨rfl, rfl⟩
  go_wp2
  refine hK.out _ _ bd1 ?_
  clear hK K
  refine alH fun K hK => ?_
  go_wp2
  refine hK.out _ _ bd1 ?_
  clear hK K
  refine stH (h := ?_)
  refine stH (h := ?_)
  refine stH (hy := fun w hS => by have := HS.out w hS; go_simp <;> with_reducible rfl) (h := ?_)
  refine alH fun K hK => ?_
  go_wp2_with fail
  refine (rbytes_sc _ _ hs').mono ?_
  rintro e w1 ⟨v, rfl, hv⟩
  obtain ⟨A1, c1, rfl, hi1, hc1, hA1⟩ := hv.form
  have hb2 : Below w.heap.size w w1 := bd1.trans (hv.bel.mono (Nat.le_refl _))
  have r2 := run_strOf (P := Tryz.prog) w1 34 9 5 Tryz.underlying34 Tryz.underlying5 Tryz.underlying9 A1 c1 _ hi1 (encS_byte _ hs')
  go_wp2
  refine hK.out _ _ hb2 ?_
  clear hK K
  refine stH (h := ?_)
  refine alH fun K hK => ?_
  go_wp2
  refine hK.out _ _ hb2 ?_
  clear hK K
  refine alH fun K hK => ?_
  go_wp2
  refine hK.out _ _ hb2 ?_
  clear hK K
  refine alH fun K hK => ?_
  go_wp2
  refine hK.out _ _ hb2 ?_
  clear hK K
  refine alH fun K hK => ?_
  go_wp2
  refine hK.out _ _ hb2 ?_
  clear hK K
  refine chainH_nil ?_
  go_wp2; go_ret2
  exact ⟨by rw [HJ.out, HW.out, hs', strOf_beq _ _ (encS_byte _ hs') HY.out, Bool.true_and]; rfl, hb2⟩
 ·have hs' : isSc R = false := by simpa using hs
  clear hs
  go_enter Tryz.func191, Tryz.ntmps191
  go_wp2
  rw [← HR.out]
  go_quiet ((go_at_call 158; exact Calls.quiet_of_same ((rscalar_any _ _).mono fun e w' h => ⟨h.1, h.2.symm⟩)))
  go_wp2; go_ret2
  exact ⟨by rw [HJ.out, HW.out, hs', Bool.false_and]; rfl, (Below.refl _ _).drewN _⟩
theorem rscal3 (A : Option Addr) (a b d : Int) (c : Nat) (w : World) (hp : Ints .u8 w A [a, b, d]) (hy : Byte [a, b, d]) : Calls Tryz.prog 191 #[.slice A 3 c] w (Both (joinV [a, b, d]) (wholeB [a, b, d]) w) := by
 obtain ⟨B, off, rfl, c0, hB⟩ := hp.at (i := 0) (by simp)
 obtain ⟨B1, off1, q1, c1, _⟩ := hp.at (i := 1) (by simp)
 cases q1
 obtain ⟨B2, off2, q2, c2, _⟩ := hp.at (i := 2) (by simp)
 cases q2
 simp only [List.getD_cons_zero, Nat.add_zero] at c0
 have y0 : 0 ≤ a ∧ a ≤ 255 := hy a (by simp)
 obtain ⟨l0, m0⟩ := y0
 simp only [List.getD_cons_zero, List.getD_cons_succ] at c1
 have y1 : 0 ≤ b ∧ b ≤ 255 := hy b (by simp)
 obtain ⟨l1, m1⟩ := y1
 simp only [List.getD_cons_zero, List.getD_cons_succ] at c2
 have y2 : 0 ≤ d ∧ d ≤ 255 := hy d (by simp)
 obtain ⟨l2, m2⟩ := y2
 have HY := hide hy; clear hy
 obtain ⟨R, hR⟩ : ∃ R, R = (a - 224) * 4096 + (b - 128) * 64 + d - 128 := ⟨_, rfl⟩
 have HW : Hid (wholeB [a, b, d] = (isSc R && decide (encS R = [a, b, d]))) := by unfold Hid; rw [hR]; rfl
 have HJ : Hid (joinV [a, b, d] = R) := by unfold Hid; rw [hR]; rfl
 have HR := hide hR; clear hR
 by_cases hs : isSc R = true
 ·have hs' := hs
  clear hs
  have HS : Hid (∀ w', Below w.heap.size w w' → (convert 34 9 (.slice (some ⟨B, off, none⟩) 3 c)).run Tryz.prog w' = .ok (.string (strOf [a, b, d])) w') := fun w' h =>
   run_strOf (P := Tryz.prog) w' 34 9 5 Tryz.underlying34 Tryz.underlying5 Tryz.underlying9 _ c [a, b, d] (hp.below h) HY.out
  go_enter Tryz.func191, Tryz.ntmps191
  go_wp2
  go_quiet (fail)
  go_wp2
  have hb0 : Below w.heap.size w (w.drewN nq) := (Below.refl _ _).drewN _
  generalize w.drewN nq = w0 at *
  rw [← HR.out]
  refine rgH (fun w' => Below w.heap.size w w') [(true, 0), (false, 1), (false, 2), (false, 3), (true, 4), (true, 7), (true, 8), (false, 5), (true, 11), (false, 6), (false, 9), (false, 10), (false, 12)] ((hb0.drewN 1)) ?_
  refine stH (h := ?_)
  refine alH fun K hK => ?_
  go_wp2
  refine hK.out _ _ (hb0.drewN 1) ?_
  clear hK K
  refine alH fun K hK => ?_
  go_wp2_with fail
  refine (rscalar_any _ _).mono ?_
  rintro e w' ⟨rfl, rfl⟩
  go_wp2
  refine hK.out _ _ (hb0.drewN 1) ?_
  clear hK K
  refine alH fun K hK => ?_
  go_wp2
  refine hK.out _ _ (hb0.drewN 1) ?_
  clear hK K
  refine stH (h := ?_)
  refine stH (h := ?_)
  refine stH (hy := fun w hS => by have := HS.out w hS; go_simp <;> with_reducible rfl) (h := ?_)
  refine alH fun K hK => ?_
  go_wp2_with fail
  refine (rbytes_sc _ _ hs').mono ?_
  rintro e w1 ⟨v, rfl, hv⟩
  obtain ⟨A1, c1, rfl, hi1, hc1, hA1⟩ := hv.form
  have hb2 : Below w.heap.size w w1 := (hb0.drewN 1).trans (hv.bel.mono hb0.size)
  have r2 := run_strOf (P := Tryz.prog) w1 34 9 5 Tryz.underlying34 Tryz.underlying5 Tryz.underlying9 A1 c1 _ hi1 (encS_byte _ hs')
  go_wp2
  refine hK.out _ _ hb2 ?_
  clear hK K
  refine stH (h := ?_)
  refine alH fun K hK => ?_
  go_wp2
  refine hK.out _ _ hb2 ?_
  clear hK K
  refine alH fun K hK => ?_
  go_wp2
  refine hK.out _ _ hb2 ?_
  clear hK K
  refine alH fun K hK => ?_
  go_wp2
  refine hK.out _ _ hb2 ?_
  clear hK K
  refine alH fun K hK => ?_
  go_wp2
  refine hK.out _ _ hb2 ?_
  clear hK K
  refine chainH_nil ?_
  go_wp2; go_ret2
  exact ⟨by rw [HJ.out, HW.out, hs', strOf_beq _ _ (encS_byte _ hs') HY.out, Bool.true_and]; rfl, hb2⟩
 ·have hs' : isSc R = false := by simpa using hs
  clear hs
  go_enter Tryz.func191, Tryz.ntmps191
  go_wp2
  go_quiet (fail)
  go_wp2
  have hb0 : Below w.heap.size w (w.drewN nq) := (Below.refl _ _).drewN _
  generalize w.drewN nq = w0 at *
  rw [← HR.out]
  go_quiet ((go_at_call 158; exact Calls.quiet_of_same ((rscalar_any _ _).mono fun e w' h => ⟨h.1, h.2.symm⟩)))
  go_wp2; go_ret2
  exact ⟨by rw [HJ.out, HW.out, hs', Bool.false_and]; rfl, hb0.drewN _⟩
theorem rscal4 (A : Option Addr) (a b d e : Int) (c : Nat) (w : World) (hp : Ints .u8 w A [a, b, d, e]) (hy : Byte [a, b, d, e]) : Calls Tryz.prog 191 #[.slice A 4 c] w (Both (joinV [a, b, d, e]) (wholeB [a, b, d, e]) w) := by
 obtain ⟨B, off, rfl, c0, hB⟩ := hp.at (i := 0) (by simp)
 obtain ⟨B1, off1, q1, c1, _⟩ := hp.at (i := 1) (by simp)
 cases q1
 obtain ⟨B2, off2, q2, c2, _⟩ := hp.at (i := 2) (by simp)
 cases q2
 obtain ⟨B3, off3, q3, c3, _⟩ := hp.at (i := 3) (by simp)
 cases q3
 simp only [List.getD_cons_zero, Nat.add_zero] at c0
 have y0 : 0 ≤ a ∧ a ≤ 255 := hy a (by simp)
 obtain ⟨l0, m0⟩ := y0
 simp only [List.getD_cons_zero, List.getD_cons_succ] at c1
 have y1 : 0 ≤ b ∧ b ≤ 255 := hy b (by simp)
 obtain ⟨l1, m1⟩ := y1
 simp only [List.getD_cons_zero, List.getD_cons_succ] at c2
 have y2 : 0 ≤ d ∧ d ≤ 255 := hy d (by simp)
 obtain ⟨l2, m2⟩ := y2
 simp only [List.getD_cons_zero, List.getD_cons_succ] at c3
 have y3 : 0 ≤ e ∧ e ≤ 255 := hy e (by simp)
 obtain ⟨l3, m3⟩ := y3
 have HY := hide hy; clear hy
 obtain ⟨R, hR⟩ : ∃ R, R = (a - 240) * 262144 + (b - 128) * 4096 + (d - 128) * 64 + e - 128 := ⟨_, rfl⟩
 have HW : Hid (wholeB [a, b, d, e] = (isSc R && decide (encS R = [a, b, d, e]))) := by unfold Hid; rw [hR]; rfl
 have HJ : Hid (joinV [a, b, d, e] = R) := by unfold Hid; rw [hR]; rfl
 have HR := hide hR; clear hR
 by_cases hs : isSc R = true
 ·have hs' := hs
  clear hs
  have HS : Hid (∀ w', Below w.heap.size w w' → (convert 34 9 (.slice (some ⟨B, off, none⟩) 4 c)).run Tryz.prog w' = .ok (.string (strOf [a, b, d, e])) w') := fun w' h =>
   run_strOf (P := Tryz.prog) w' 34 9 5 Tryz.underlying34 Tryz.underlying5 Tryz.underlying9 _ c [a, b, d, e] (hp.below h) HY.out
  go_enter Tryz.func191, Tryz.ntmps191
  go_wp2
  go_quiet (fail)
  go_wp2
  have hb0 : Below w.heap.size w (w.drewN nq) := (Below.refl _ _).drewN _
  generalize w.drewN nq = w0 at *
  rw [← HR.out]
  refine rgH (fun w' => Below w.heap.size w w') [(true, 0), (false, 1), (false, 2), (false, 3), (true, 4), (true, 7), (true, 8), (false, 5), (true, 11), (false, 6), (false, 9), (false, 10), (false, 12)] ((hb0.drewN 1)) ?_
  refine stH (h := ?_)
  refine alH fun K hK => ?_
  go_wp2
  refine hK.out _ _ (hb0.drewN 1) ?_
  clear hK K
  refine alH fun K hK => ?_
  go_wp2_with fail
  refine (rscalar_any _ _).mono ?_
  rintro e w' ⟨rfl, rfl⟩
  go_wp2
  refine hK.out _ _ (hb0.drewN 1) ?_
  clear hK K
  refine alH fun K hK => ?_
  go_wp2
  refine hK.out _ _ (hb0.drewN 1) ?_
  clear hK K
  refine stH (h := ?_)
  refine stH (h := ?_)
  refine stH (hy := fun w hS => by have := HS.out w hS; go_simp <;> with_reducible rfl) (h := ?_)
  refine alH fun K hK => ?_
  go_wp2_with fail
  refine (rbytes_sc _ _ hs').mono ?_
  rintro e w1 ⟨v, rfl, hv⟩
  obtain ⟨A1, c1, rfl, hi1, hc1, hA1⟩ := hv.form
  have hb2 : Below w.heap.size w w1 := (hb0.drewN 1).trans (hv.bel.mono hb0.size)
  have r2 := run_strOf (P := Tryz.prog) w1 34 9 5 Tryz.underlying34 Tryz.underlying5 Tryz.underlying9 A1 c1 _ hi1 (encS_byte _ hs')
  go_wp2
  refine hK.out _ _ hb2 ?_
  clear hK K
  refine stH (h := ?_)
  refine alH fun K hK => ?_
  go_wp2
  refine hK.out _ _ hb2 ?_
  clear hK K
  refine alH fun K hK => ?_
  go_wp2
  refine hK.out _ _ hb2 ?_
  clear hK K
  refine alH fun K hK => ?_
  go_wp2
  refine hK.out _ _ hb2 ?_
  clear hK K
  refine alH fun K hK => ?_
  go_wp2
  refine hK.out _ _ hb2 ?_
  clear hK K
  refine chainH_nil ?_
  go_wp2; go_ret2
  exact ⟨by rw [HJ.out, HW.out, hs', strOf_beq _ _ (encS_byte _ hs') HY.out, Bool.true_and]; rfl, hb2⟩
 ·have hs' : isSc R = false := by simpa using hs
  clear hs
  go_enter Tryz.func191, Tryz.ntmps191
  go_wp2
  go_quiet (fail)
  go_wp2
  have hb0 : Below w.heap.size w (w.drewN nq) := (Below.refl _ _).drewN _
  generalize w.drewN nq = w0 at *
  rw [← HR.out]
  go_quiet ((go_at_call 158; exact Calls.quiet_of_same ((rscalar_any _ _).mono fun e w' h => ⟨h.1, h.2.symm⟩)))
  go_wp2; go_ret2
  exact ⟨by rw [HJ.out, HW.out, hs', Bool.false_and]; rfl, hb0.drewN _⟩
theorem rscal_any (A : Option Addr) (p : List Int) (n c : Nat) (w : World) (hp : Ints .u8 w A p) (hn : p.length = n) (hy : Byte p) (h0 : 0 < n) (h4 : n ≤ 4) : Calls Tryz.prog 191 #[.slice A n c] w (Both (joinV p) (wholeB p) w) := by
 subst hn
 match p, h0, h4 with
 | [a], _, _ => exact rscal1 A a c w hp hy
 | [a, b], _, _ => exact rscal2 A a b c w hp hy
 | [a, b, d], _, _ => exact rscal3 A a b d c w hp hy
 | [a, b, d, e], _, _ => exact rscal4 A a b d e c w hp hy
theorem whole_eq (c : Int) (r : List Int) (h0 : 0 ≤ c) (h : fit (c :: r) = (c :: r).length) : wholeB (c :: r) = decide ((c :: r).length = sz c) := by
 unfold wholeB
 rw [Bool.eq_iff_iff, Bool.and_eq_true, decide_eq_true_iff, decide_eq_true_iff]
 constructor
 ·rintro ⟨h1, h2⟩
  obtain ⟨c', r', e, h3, _⟩ := full_fit (full_enc _ h1)
  rw [h2] at e h3
  cases e
  exact h3.symm
 ·intro h1
  exact full_join (fit_full h0 (by omega) h1)
def UPair (k : IntKind) (r : Int) (n : Int) (w : World) (e : Ending) (w' : World) : Prop := e = .returned (.tuple #[.int k r, .int .i64 n]) ∧ Below w.heap.size w w'
theorem take_cons {b : List Int} {c : Int} {r : List Int} (hb : b = c :: r) (k : Nat) : b.take (k + 1) = c :: r.take k := by rw [hb]; rfl
theorem rfirst_any (A : Option Addr) (n c : Nat) (b : List Int) (w : World) (hb : Ints .u8 w A b) (hn : b.length = n) (hc : n ≤ c) (hl : n ≤ 1000000) (by_ : Byte b) :
  Calls Tryz.prog 172 #[.slice A n c] w (UPair .i64 (first b).1 (first b).2 w) := by
 have HN := hide hn; clear hn
 go_enter Tryz.func172, Tryz.ntmps172
 go_wp2
 go_loopw [4, 5, 6] (fun i _ _ wr => ∃ k : Nat, k ≤ n ∧ i = .int .i64 k ∧ k ≤ fit b ∧ (k = 0 ∨ k < sz (b.headD 0)) ∧ Below w.heap.size w wr) (fun i _ _ _ => n - (intOf i).toNat)
 case atStart => exact ⟨0, Nat.zero_le _, rfl, Nat.zero_le _, .inl rfl, Below.refl _ _⟩
 case round =>
  obtain ⟨k, hk, rfl, hkf, hks, hbel⟩ := hrel
  have HK := hide hks; have HF := hide hkf; clear hks hkf
  by_cases hlt : k < n
  ·obtain ⟨C, off, rfl, _, _⟩ := hb.at (i := k) (by rw [HN.out]; exact hlt)
   obtain ⟨h, r, hbc⟩ : ∃ h r, b = h :: r := by
    cases b with
    | nil => have := HN.out; simp at this; omega
    | cons h r => exact ⟨h, r, rfl⟩
   have hh0 : 0 ≤ h := (by_ h (by rw [hbc]; simp)).1
   have hlen : (b.take (k + 1)).length = k + 1 := by rw [List.length_take, HN.out]; omega
   have hft := fit_take b (k + 1) (by rw [HN.out]; omega)
   have hbt : Byte (b.take (k + 1)) := by_.take _
   have hit : Ints .u8 w (some ⟨C, off, none⟩) (b.take (k + 1)) := hb.take _
   have k1 : (0 : Int) ≤ (k : Int) + 1 := by omega
   have k2 : (k : Int) + 1 ≤ (c : Int) := by omega
   have hsz : sz (b.headD 0) = sz h := by rw [hbc]; rfl
   have HKS : Hid (k = 0 ∨ k < sz h) := by have := HK.out; rwa [hsz] at this
   have HSZ := hide hsz; have HBC := hide hbc; have HLEN := hide hlen; have HFT := hide hft; clear hlen hft hsz hbc
   by_cases hbeg : begB (b.take (k + 1)) = true
   ·have hfk : fit (b.take (k + 1)) = k + 1 := by have := hbeg; unfold begB at this; rw [decide_eq_true_iff, HLEN.out] at this; exact this
    have hkf1 : k + 1 ≤ fit b := HFT.out.1 hfk
    have hw : wholeB (b.take (k + 1)) = decide (k + 1 = sz h) := by
     have e := take_cons HBC.out k
     rw [e] at hfk ⊢
     have hl := HLEN.out
     rw [e] at hl
     rw [whole_eq h _ hh0 (by rw [hl]; exact hfk), hl]
    have h4 : k + 1 ≤ 4 := by
     have h1 := fit_sz h r
     have h2 := sz_le h
     rw [HBC.out] at hkf1
     omega
    have HW := hide hw; have HKF := hide hkf1; clear hfk hkf1 hw; go_wp2_with fail
    refine (begins_any _ (k + 1) c (b.take (k + 1)) wr (hit.below hbel) HLEN.out (by omega) hbt (by omega)).mono ?_
    rintro e w1 ⟨rfl, hb1⟩
    rw [hbeg]
    have hbel1 := hbel.trans (hb1.mono hbel.size)
    clear hbeg hb1; go_wp2_with fail
    refine (rscal_any _ (b.take (k + 1)) (k + 1) c w1 (hit.below hbel1) HLEN.out hbt (by omega) h4).mono ?_
    rintro e w2 ⟨rfl, hb2⟩
    have hbel2 := hbel1.trans (hb2.mono hbel1.size)
    rw [HW.out]
    by_cases hwh : k + 1 = sz h
    ·have hd : decide (k + 1 = sz h) = true := by simp [hwh]
     have HFST : Hid (first b = (joinV (b.take (k + 1)), k + 1)) := by
      unfold Hid
      have h1 := fit_sz h r
      have h2 := HKF.out
      rw [HBC.out] at h2 ⊢
      have e : fit (h :: r) = k + 1 := by omega
      rw [first_whole (by omega) (by omega), e]
     have HWH := hide hwh; clear hwh
     rw [hd]
     go_wp2; go_ret2
     refine ⟨?_, hbel2⟩
     rw [HFST.out]
     rfl
    ·have hd : decide (k + 1 = sz h) = false := by simp [hwh]
     have HWH := hide hwh; clear hwh
     rw [hd]
     go_wp2
     go_roundw
     case rel =>
      have h1 := fit_sz h r
      have h2 := HKF.out
      have h3 := HWH.out
      rw [HBC.out] at h2
      exact ⟨k + 1, by omega, by go_num, HKF.out, .inr (by rw [HSZ.out]; omega), hbel2⟩
     case measure => simp [intOf]; omega
   ·have hbeg' : begB (b.take (k + 1)) = false := by simpa using hbeg
    have hfk : fit b = k := by
     have h1 : ¬ fit (b.take (k + 1)) = k + 1 := by unfold begB at hbeg; rw [decide_eq_true_iff, HLEN.out] at hbeg; exact hbeg
     have h2 := HF.out
     have h3 : ¬ k + 1 ≤ fit b := fun q => h1 (HFT.out.2 q)
     omega
    have HFST : Hid (first b = (65533, if k = 0 then 1 else k)) := by
     unfold Hid
     have hn := HN.out
     have h3 := HKS.out
     rw [HBC.out] at hfk hn ⊢
     by_cases h0 : k = 0
     ·rw [first_zero (by omega), if_pos h0]
     ·rw [first_broken (by omega) (by omega) (by omega), hfk, if_neg h0]
    clear hbeg hfk; go_wp2_with fail
    refine (begins_any _ (k + 1) c (b.take (k + 1)) wr (hit.below hbel) HLEN.out (by omega) hbt (by omega)).mono ?_
    rintro e w1 ⟨rfl, hb1⟩
    rw [hbeg']
    have hbel1 := hbel.trans (hb1.mono hbel.size)
    clear hbeg' hb1
    by_cases hk0 : k = 0
    ·have HZ := hide hk0
     subst hk0
     have hne : ((0 : Int) == (n : Int)) = false := by simp; omega
     go_wp2; go_ret2
     refine ⟨?_, hbel1⟩
     rw [HFST.out]
     rfl
    ·have hne : ((k : Int) == (n : Int)) = false := by simp; omega
     have hne2 : ((k : Int) == 0) = false := by simp; omega
     have HZ := hide hk0; go_wp2; go_ret2
     refine ⟨?_, hbel1⟩
     rw [HFST.out, if_neg HZ.out]
     rfl
  ·have hkn : k = n := by omega
   have HFST : Hid (first b = (0, 0)) := by
    unfold Hid
    have h1 := HN.out
    have h2 := HK.out
    have h3 := HF.out
    cases b with
    | nil => rfl
    | cons h r =>
     have h4 := fit_le (h :: r)
     simp only [List.headD_cons] at h2
     have hpos : 0 < (h :: r).length := by simp
     exact first_held (by omega) (by omega)
   subst hkn
   have hne : ((k : Int) == (k : Int)) = true := by simp
   go_wp2; go_ret2
   refine ⟨?_, hbel⟩
   rw [HFST.out]
   rfl
end
end Go.Proofs.YtkijclgbpbhglaaGreatDoor
