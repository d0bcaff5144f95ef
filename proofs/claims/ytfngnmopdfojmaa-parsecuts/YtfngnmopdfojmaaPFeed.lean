/-
  Contracts: a parser's bytes (the program's).
-/
import Derived.Test.YtfngnmopdfojmaaPTell
namespace Go.Proofs.Ytfngnmopdfojmaa
set_option maxRecDepth 100000
open Go.ChangeShapes Go.WideShapes Go.ChangeAt Go.RowKit
set_option linter.unusedVariables false

theorem onto_any (gL : Nat) (w : World) : Calls Try.prog 21 #[.pointer (some ⟨gL, 0, none⟩)] w fun e w' => e = .returned (.func (.func 37) #[] #[.pointer (some ⟨w.heap.size, 0, none⟩)]) ∧ w' = w.alloc (.cells #[.pointer (some ⟨gL, 0, none⟩)] 67) := by
  go_enter Try.func21, Try.ntmps21
  go_wp2
  go_ret
  exact ⟨rfl, rfl⟩
section
variable {B gB gL g : Nat} {w : World} {p : Ps} {es : List Ev}
set_option maxHeartbeats 2000000 in
theorem number_any (h : Pr w g p) (h3 : p.st = 3) (ht : Tel B w gB gL es) (hg : g < B) (hl : es.length ≤ 10000) (b : Int) (b0 : 32 ≤ b) (b1 : b < 127) : Calls Try.prog 27 #[.pointer (some ⟨g, 0, none⟩), .int .u8 b, .func (.func 37) #[] #[.pointer (some ⟨gB, 0, none⟩)]] w fun e w' => e = .returned (.int .i64 (stepP p b).1.st) ∧ Pr w' g ⟨p.st, (stepP p b).1.n, (stepP p b).1.h⟩ ∧ Tel B w' gB gL (es ++ (stepP p b).2) ∧ Fr B g w w' := by
  have lt := h.lt
  have HP := hide h
  have HT := hide ht
  have hle := ht.le
  clear h ht
  rcases (by omega : (48 ≤ b ∧ b ≤ 57) ∨ b = 59 ∨ 64 ≤ b ∨ (b < 64 ∧ ¬ (48 ≤ b ∧ b ≤ 57) ∧ b ≠ 59)) with ⟨h1, h2⟩ | h1 | h1 | ⟨h1, h2, h4⟩
  · rw [step_dig h1 h2 h3]
    simp only [List.append_nil]
    clear h3
    go_enter Try.func27, Try.ntmps27
    go_wp2_with fail
    refine (adigit_any HP.out (b - 48) (by omega) (by omega)).mono ?_
    rintro e w1 ⟨rfl, hp, hf⟩
    have HP1 := hide hp
    have HF := hide hf
    clear hp hf
    go_wp2
    go_ret
    exact ⟨rfl, HP1.out, HT.out.fr HP.out HF.out, HF.out.less hle⟩
  · subst h1
    rw [step_semi rfl h3]
    simp only [List.append_nil]
    clear h3
    go_enter Try.func27, Try.ntmps27
    go_wp2_with fail
    refine (asplit_any HP.out).mono ?_
    rintro e w1 ⟨rfl, hp, hf⟩
    have HP1 := hide hp
    have HF := hide hf
    clear hp hf
    go_wp2
    go_ret
    exact ⟨rfl, HP1.out, HT.out.fr HP.out HF.out, HF.out.less hle⟩
  · rw [step_fin h1 b1 h3]
    simp only
    have h59 : (b == 59) = false := by simp; omega
    have h57 : 57 < b := by omega
    have h48 : 48 ≤ b := by omega
    have b2 : b ≤ 255 := by omega
    have HFI : Hid (finB b = true) := by unfold Hid finB; simp; omega
    have HTOLD := hide (atold_any HP.out)
    generalize p.n.take 8 = xs at *
    obtain ⟨m, hm⟩ : ∃ m, xs.length = m := ⟨_, rfl⟩
    have HM := hide hm
    clear h3 hm
    go_enter Try.func27, Try.ntmps27
    go_wp2_with fail
    refine (final_any b w (by omega) b2).mono ?_
    rintro e w1 ⟨rfl, rfl⟩
    rw [HFI.out]
    go_wp2_with fail
    refine (HTOLD.out).mono ?_
    rintro e w1 ⟨v, rfl, hov⟩
    obtain ⟨A, c, rfl, hi, -, -, -⟩ := hov.typed (C := 0)
    rw [HM.out]
    have HB := hide hov.bel
    have HI := hide hi
    clear hov hi HTOLD
    go_wp2_with fail
    refine (tell1_any B gB gL es w1 (HT.out.later HB.out) 3 b A m c xs HM.out HI.out (by omega)).mono ?_
    rintro e w2 ⟨rfl, hto⟩
    have HTO := hide hto
    clear hto
    go_wp2
    go_ret
    exact ⟨rfl, HTO.out.prs (HP.out.later HB.out), HTO.out.tel, (Fr.of_below (HB.out.mono hle)).trans (Fr.of_below HTO.out.bel)⟩
  · rw [step_idle b0 h1 (by omega) h4 h3]
    simp only [List.append_nil]
    have h59 : (b == 59) = false := by simp; omega
    have b2 : b ≤ 255 := by omega
    have HFI : Hid (finB b = false) := by unfold Hid finB; simp; omega
    clear h3
    rcases (by omega : b < 48 ∨ (48 ≤ b ∧ 57 < b)) with h5 | ⟨h5, h6⟩
    all_goals
      go_enter Try.func27, Try.ntmps27
      go_wp2_with fail
      refine (final_any b w (by omega) b2).mono ?_
      rintro e w1 ⟨rfl, rfl⟩
      rw [HFI.out]
      go_wp2
      go_ret
      exact ⟨rfl, HP.out, HT.out, Fr.refl⟩
end

set_option maxHeartbeats 4000000 in
theorem pfeed_any (g : Nat) (p : Ps) (bs : List Int) (A : Option Addr) (n c : Nat) (w : World) (h : Pr w g p) (hok : PsOk p) (hby : Byte bs) (hi : Ints .u8 w A bs) (hn : bs.length = n) (hl : n ≤ 1000) (hA : ∀ ad, A = some ad → 0 < n → ad.block ≠ g) :
    Calls Try.prog 9 #[.pointer (some ⟨g, 0, none⟩), .slice A n c] w fun e w' => ∃ v, e = .returned v ∧ OwnE 0 56 .i32 w.heap.size w' w' v (feedP p bs).2 ∧ Pr w' g (feedP p bs).1 ∧ Fr w.heap.size g w w' := by
  obtain ⟨w0, hw0⟩ : ∃ w0, w.alloc (.cells #[.slice none 0 0] 44) = w0 := ⟨_, rfl⟩
  obtain ⟨W, hW⟩ : ∃ W, w0.alloc (.cells #[.pointer (some ⟨w.heap.size, 0, none⟩)] 67) = W := ⟨_, rfl⟩
  have hb0 : Below w.heap.size w w0 := by rw [← hw0]; exact (Below.refl _ _).alloc (Nat.le_refl _) _
  have hb1 : Below w0.heap.size w0 W := by rw [← hW]; exact (Below.refl _ _).alloc (Nat.le_refl _) _
  have HB : Hid (Below w.heap.size w W) := hb0.trans (hb1.mono hb0.size)
  obtain ⟨gL, hgL⟩ : ∃ gL, w.heap.size = gL := ⟨_, rfl⟩
  obtain ⟨gB, hgB⟩ : ∃ gB, w0.heap.size = gB := ⟨_, rfl⟩
  have HTel : Hid (Tel w.heap.size W gB gL []) := by
    refine ⟨?_, ⟨.slice none 0 0, ?_, OwnE.start HB.out.size (Nat.zero_le _)⟩, ?_, by omega⟩
    · rw [← hgB, ← hgL, ← hW]; exact Whole.new w0 67 _
    · have : Whole w0 gL 44 [.slice none 0 0] := by rw [← hgL, ← hw0]; exact Whole.new w 44 _
      exact this.later hb1
    · rw [← hgB]; exact hb0.size
  have HP0 := hide (h.later HB.out)
  have HOK0 := hide hok
  have HN := hide hn
  have HA := hide hA
  have hgB' : g < w.heap.size := h.lt
  have HW0 := hide hw0
  have HW := hide hW
  have HGL := hide hgL
  have HGB := hide hgB
  clear hw0 hW hb0 hb1 hgL hgB h hok hn hA
  have hgB := hgB'
  clear hgB'
  go_enter Try.func9, Try.ntmps9
  go_wp2
  go_step3
  go_wp2_with fail
  rw [HW0.out]
  refine (onto_any w.heap.size w0).mono ?_
  rintro e w1 ⟨rfl, rfl⟩
  rw [HW.out, HGB.out]
  go_wp2
  go_step3
  go_wp2
  go_loopw [8, 9, 15] (fun _ _ i wr => ∃ k : Nat, k ≤ n ∧ i = .int .i64 k ∧ Pr wr g (feedP p (bs.take k)).1 ∧ Tel w.heap.size wr gB gL (feedP p (bs.take k)).2 ∧ Fr w.heap.size g w wr) (fun _ _ i _ => n - (intOf i).toNat)
  case atStart =>
    exact ⟨0, Nat.zero_le _, rfl, HP0.out, HTel.out, Fr.of_below HB.out⟩
  case round =>
    obtain ⟨k, hk, rfl, hp, ht, hfr⟩ := hrel
    by_cases hlt : k < n
    · obtain ⟨bb, off, rfl, hc, hb0⟩ := hi.at (i := k) (by rw [HN.out]; exact hlt)
      have hbg := HA.out _ rfl (by omega)
      have hbr := hby _ (getD_mem bs k (by rw [HN.out]; exact hlt))
      obtain ⟨b, hb⟩ : ∃ b, bs.getD k 0 = b := ⟨_, rfl⟩
      have hcw : wr.cell? ⟨bb, off + k, none⟩ = some (.int .u8 b) := by
        have e : wr.cell? ⟨bb, off + k, none⟩ = w.cell? ⟨bb, off + k, none⟩ := by simp only [World.cell?, hfr.block bb hb0 hbg]
        rw [e, hc, hb]
      rw [hb] at hbr
      obtain ⟨b0, b1⟩ := hbr
      have hff := feed_facts (bs.take k) p HOK0.out (hby.take k)
      have HNX : Hid (feedP p (bs.take (k + 1)) = ((stepP (feedP p (bs.take k)).1 b).1, (feedP p (bs.take k)).2 ++ (stepP (feedP p (bs.take k)).1 b).2)) := by
        unfold Hid
        rw [take_snoc bs k b (by rw [HN.out]; exact hlt) hb, feed_snoc]
      obtain ⟨q, es, hqe⟩ : ∃ q es, feedP p (bs.take k) = (q, es) := ⟨_, _, rfl⟩
      rw [hqe] at hp ht hff HNX
      simp only at hp ht hff HNX
      obtain ⟨hok, -, hle⟩ := hff
      have hle2 : es.length ≤ 4000 := by rw [List.length_take] at hle; omega
      have c15 := hp.st
      have z15 := hp.frozen 15
      have l15 := hp.lt
      have s0 := hok.st0
      have s4 := hok.st4
      have HP := hide hp
      have HT := hide ht
      have HF := hide hfr
      have HOK := hide hok
      clear hp ht hfr hok hc hb hqe hle
      rcases (by omega : (b = 24) ∨ (b = 26) ∨ (b = 27) ∨ (b = 127) ∨ (b < 32 ∧ b ≠ 24 ∧ b ≠ 26 ∧ b ≠ 27) ∨ (128 ≤ b) ∨ ((32 ≤ b ∧ b < 127) ∧ q.st = 0) ∨ ((32 ≤ b ∧ b < 127) ∧ q.st = 1) ∨ ((32 ≤ b ∧ b < 127) ∧ q.st = 2) ∨ ((32 ≤ b ∧ b < 127) ∧ q.st = 3) ∨ ((32 ≤ b ∧ b < 127) ∧ q.st = 4)) with hb | hb | hb | hb | hb | hb | hb | hb | hb | hb | hb
      · subst hb
        have HST := hide (step_cancel (p := q) (b := 24) (by omega))
        go_wp2_with fail
        refine (pend_any HP.out HT.out hgB (by omega)).mono ?_
        rintro e w1 ⟨rfl, hp, ht, hf⟩
        have HP1 := hide hp
        have HT1 := hide ht
        have HF1 := hide (HF.out.trans hf)
        clear hp ht hf c15 z15 l15 HP HT HF
        go_wp2_with fail
        refine (tell1_any _ gB gL _ w1 HT1.out 2 24 none 0 0 [] rfl .nil (by rw [List.length_append]; have := brk_len q.h; omega)).mono ?_
        rintro e w2 ⟨rfl, hto⟩
        have HP2 := hide (hto.prs HP1.out)
        have HT2 := hide hto.tel
        have HF2 := hide (HF1.out.trans (Fr.of_below hto.bel))
        clear hto HP1 HT1 HF1
        have c9 := HP2.out.st
        have z9 := HP2.out.frozen 15
        have l9 := HP2.out.lt
        try simp only at c9
        go_wp2
        go_roundw
        case rel =>
          have hf9 : Fr w2.heap.size g w2 (w2.setCell ⟨g, 15, none⟩ (.int .i64 (0))) := Fr.put 15 _
          refine ⟨k + 1, by omega, by go_num, ?_, ?_, HF2.out.trans (Fr.put 15 _)⟩
          · rw [HNX.out, HST.out]; exact HP2.out.setst (0)
          · rw [HNX.out, HST.out]; have := HT2.out.fr HP2.out hf9; simpa using this
        case measure => simp [intOf]; omega
      · subst hb
        have HST := hide (step_cancel (p := q) (b := 26) (by omega))
        go_wp2_with fail
        refine (pend_any HP.out HT.out hgB (by omega)).mono ?_
        rintro e w1 ⟨rfl, hp, ht, hf⟩
        have HP1 := hide hp
        have HT1 := hide ht
        have HF1 := hide (HF.out.trans hf)
        clear hp ht hf c15 z15 l15 HP HT HF
        go_wp2_with fail
        refine (tell1_any _ gB gL _ w1 HT1.out 2 26 none 0 0 [] rfl .nil (by rw [List.length_append]; have := brk_len q.h; omega)).mono ?_
        rintro e w2 ⟨rfl, hto⟩
        have HP2 := hide (hto.prs HP1.out)
        have HT2 := hide hto.tel
        have HF2 := hide (HF1.out.trans (Fr.of_below hto.bel))
        clear hto HP1 HT1 HF1
        have c9 := HP2.out.st
        have z9 := HP2.out.frozen 15
        have l9 := HP2.out.lt
        try simp only at c9
        go_wp2
        go_roundw
        case rel =>
          have hf9 : Fr w2.heap.size g w2 (w2.setCell ⟨g, 15, none⟩ (.int .i64 (0))) := Fr.put 15 _
          refine ⟨k + 1, by omega, by go_num, ?_, ?_, HF2.out.trans (Fr.put 15 _)⟩
          · rw [HNX.out, HST.out]; exact HP2.out.setst (0)
          · rw [HNX.out, HST.out]; have := HT2.out.fr HP2.out hf9; simpa using this
        case measure => simp [intOf]; omega
      · subst hb
        have HST := hide (step_esc (p := q) (b := 27) rfl)
        go_wp2_with fail
        refine (pend_any HP.out HT.out hgB (by omega)).mono ?_
        rintro e w1 ⟨rfl, hp, ht, hf⟩
        have HP1 := hide hp
        have HT1 := hide ht
        have HF1 := hide (HF.out.trans hf)
        clear hp ht hf c15 z15 l15 HP HT HF
        go_wp2_with fail
        refine (anone_any HP1.out).mono ?_
        rintro e w2 ⟨rfl, hp, hf⟩
        have HP2 := hide hp
        have HT2 := hide (HT1.out.fr HP1.out hf)
        have HF2 := hide (HF1.out.trans (hf.less HT1.out.le))
        clear hp hf HP1 HT1 HF1
        have c9 := HP2.out.st
        have z9 := HP2.out.frozen 15
        have l9 := HP2.out.lt
        try simp only at c9
        go_wp2
        go_roundw
        case rel =>
          have hf9 : Fr w2.heap.size g w2 (w2.setCell ⟨g, 15, none⟩ (.int .i64 (1))) := Fr.put 15 _
          refine ⟨k + 1, by omega, by go_num, ?_, ?_, HF2.out.trans (Fr.put 15 _)⟩
          · rw [HNX.out, HST.out]; exact HP2.out.setst (1)
          · rw [HNX.out, HST.out]; have := HT2.out.fr HP2.out hf9; simpa using this
        case measure => simp [intOf]; omega
      · subst hb
        have HST := hide (step_ctl (p := q) (b := 127) (by omega) (by omega) (by omega) (by omega))
        go_wp2_with fail
        refine (pend_any HP.out HT.out hgB (by omega)).mono ?_
        rintro e w1 ⟨rfl, hp, ht, hf⟩
        have HP1 := hide hp
        have HT1 := hide ht
        have HF1 := hide (HF.out.trans hf)
        clear hp ht hf c15 z15 l15 HP HT HF
        go_wp2_with fail
        refine (tell1_any _ gB gL _ w1 HT1.out 2 127 none 0 0 [] rfl .nil (by rw [List.length_append]; have := brk_len q.h; omega)).mono ?_
        rintro e w2 ⟨rfl, hto⟩
        have HP2 := hide (hto.prs HP1.out)
        have HT2 := hide hto.tel
        have HF2 := hide (HF1.out.trans (Fr.of_below hto.bel))
        clear hto HP1 HT1 HF1
        go_wp2
        go_roundw
        case rel =>
          refine ⟨k + 1, by omega, by go_num, ?_, ?_, HF2.out⟩
          · rw [HNX.out, HST.out]; exact HP2.out
          · rw [HNX.out, HST.out]; have := HT2.out; simpa using this
        case measure => simp [intOf]; omega
      · obtain ⟨h32, n24, n26, n27⟩ := hb
        have h24 : (b == 24) = false := by simp; omega
        have h26 : (b == 26) = false := by simp; omega
        have h27 : (b == 27) = false := by simp; omega
        have HST := hide (step_ctl (p := q) (b := b) n24 n26 n27 (by omega))
        go_wp2_with fail
        refine (pend_any HP.out HT.out hgB (by omega)).mono ?_
        rintro e w1 ⟨rfl, hp, ht, hf⟩
        have HP1 := hide hp
        have HT1 := hide ht
        have HF1 := hide (HF.out.trans hf)
        clear hp ht hf c15 z15 l15 HP HT HF
        go_wp2_with fail
        refine (tell1_any _ gB gL _ w1 HT1.out 2 b none 0 0 [] rfl .nil (by rw [List.length_append]; have := brk_len q.h; omega)).mono ?_
        rintro e w2 ⟨rfl, hto⟩
        have HP2 := hide (hto.prs HP1.out)
        have HT2 := hide hto.tel
        have HF2 := hide (HF1.out.trans (Fr.of_below hto.bel))
        clear hto HP1 HT1 HF1
        go_wp2
        go_roundw
        case rel =>
          refine ⟨k + 1, by omega, by go_num, ?_, ?_, HF2.out⟩
          · rw [HNX.out, HST.out]; exact HP2.out
          · rw [HNX.out, HST.out]; have := HT2.out; simpa using this
        case measure => simp [intOf]; omega
      · have h24 : (b == 24) = false := by simp; omega
        have h26 : (b == 26) = false := by simp; omega
        have h27 : (b == 27) = false := by simp; omega
        have h127 : (b == 127) = false := by simp; omega
        have HST := hide (step_take (p := q) (b := b) (by omega) (by omega) (by omega))
        go_wp2_with fail
        refine (ptake_any HP.out HOK.out HT.out hgB (by omega) b b0 b1).mono ?_
        rintro e w1 ⟨rfl, hp, ht, hf⟩
        have HP1 := hide hp
        have HT1 := hide ht
        have HF1 := hide (HF.out.trans hf)
        clear hp ht hf c15 z15 l15 HP HT HF
        have c9 := HP1.out.st
        have z9 := HP1.out.frozen 15
        have l9 := HP1.out.lt
        try simp only at c9
        go_wp2
        go_roundw
        case rel =>
          have hf9 : Fr w1.heap.size g w1 (w1.setCell ⟨g, 15, none⟩ (.int .i64 (0))) := Fr.put 15 _
          refine ⟨k + 1, by omega, by go_num, ?_, ?_, HF1.out.trans (Fr.put 15 _)⟩
          · rw [HNX.out, HST.out]; exact HP1.out.setst (0)
          · rw [HNX.out, HST.out]; have := HT1.out.fr HP1.out hf9; simpa using this
        case measure => simp [intOf]; omega
      · obtain ⟨⟨h32, h127l⟩, hs⟩ := hb
        have h128 : b < 128 := by omega
        have h24 : (b == 24) = false := by simp; omega
        have h26 : (b == 26) = false := by simp; omega
        have h27 : (b == 27) = false := by simp; omega
        have h127 : (b == 127) = false := by simp; omega
        have HST := hide (step_take (p := q) (b := b) (by omega) (by omega) (.inr hs))
        rw [hs] at c15
        go_wp2_with fail
        refine (ptake_any HP.out HOK.out HT.out hgB (by omega) b b0 b1).mono ?_
        rintro e w1 ⟨rfl, hp, ht, hf⟩
        have HP1 := hide hp
        have HT1 := hide ht
        have HF1 := hide (HF.out.trans hf)
        clear hp ht hf c15 z15 l15 HP HT HF
        have c9 := HP1.out.st
        have z9 := HP1.out.frozen 15
        have l9 := HP1.out.lt
        try simp only at c9
        go_wp2
        go_roundw
        case rel =>
          have hf9 : Fr w1.heap.size g w1 (w1.setCell ⟨g, 15, none⟩ (.int .i64 (0))) := Fr.put 15 _
          refine ⟨k + 1, by omega, by go_num, ?_, ?_, HF1.out.trans (Fr.put 15 _)⟩
          · rw [HNX.out, HST.out]; exact HP1.out.setst (0)
          · rw [HNX.out, HST.out]; have := HT1.out.fr HP1.out hf9; simpa using this
        case measure => simp [intOf]; omega
      · obtain ⟨⟨h32, h127l⟩, hs⟩ := hb
        have h128 : b < 128 := by omega
        have h24 : (b == 24) = false := by simp; omega
        have h26 : (b == 26) = false := by simp; omega
        have h27 : (b == 27) = false := by simp; omega
        have h127 : (b == 127) = false := by simp; omega
        have HST := hide (step_s1 (p := q) (b := b) (by omega) (by omega) hs)
        rw [hs] at c15
        go_wp2_with fail
        refine (besc_any b wr (by omega) (by omega)).mono ?_
        rintro e w1 ⟨rfl, rfl⟩
        generalize bescN b = x at *
        have c9 := HP.out.st
        have z9 := HP.out.frozen 15
        have l9 := HP.out.lt
        try simp only at c9
        go_wp2
        go_roundw
        case rel =>
          have hf9 : Fr wr.heap.size g wr (wr.setCell ⟨g, 15, none⟩ (.int .i64 (x))) := Fr.put 15 _
          refine ⟨k + 1, by omega, by go_num, ?_, ?_, HF.out.trans (Fr.put 15 _)⟩
          · rw [HNX.out, HST.out]; exact HP.out.setst (x)
          · rw [HNX.out, HST.out]; have := HT.out.fr HP.out hf9; simpa using this
        case measure => simp [intOf]; omega
      · obtain ⟨⟨h32, h127l⟩, hs⟩ := hb
        have h128 : b < 128 := by omega
        have h24 : (b == 24) = false := by simp; omega
        have h26 : (b == 26) = false := by simp; omega
        have h27 : (b == 27) = false := by simp; omega
        have h127 : (b == 127) = false := by simp; omega
        have HST := hide (step_s2 (p := q) (b := b) (by omega) (by omega) hs)
        rw [hs] at c15
        go_wp2_with fail
        refine (bbet_any b wr (by omega) (by omega)).mono ?_
        rintro e w1 ⟨rfl, rfl⟩
        generalize bbetN b = x at *
        have c9 := HP.out.st
        have z9 := HP.out.frozen 15
        have l9 := HP.out.lt
        try simp only at c9
        go_wp2
        go_roundw
        case rel =>
          have hf9 : Fr wr.heap.size g wr (wr.setCell ⟨g, 15, none⟩ (.int .i64 (x))) := Fr.put 15 _
          refine ⟨k + 1, by omega, by go_num, ?_, ?_, HF.out.trans (Fr.put 15 _)⟩
          · rw [HNX.out, HST.out]; exact HP.out.setst (x)
          · rw [HNX.out, HST.out]; have := HT.out.fr HP.out hf9; simpa using this
        case measure => simp [intOf]; omega
      · obtain ⟨⟨h32, h127l⟩, hs⟩ := hb
        have h128 : b < 128 := by omega
        have h24 : (b == 24) = false := by simp; omega
        have h26 : (b == 26) = false := by simp; omega
        have h27 : (b == 27) = false := by simp; omega
        have h127 : (b == 127) = false := by simp; omega
        have HS3 := hide hs
        rw [hs] at c15
        go_wp2_with fail
        refine (number_any HP.out HS3.out HT.out hgB (by omega) b (by omega) (by omega)).mono ?_
        rintro e w1 ⟨rfl, hp, ht, hf⟩
        have HP1 := hide hp
        have HT1 := hide ht
        have HF1 := hide (HF.out.trans hf)
        clear hp ht hf c15 z15 l15 HP HT HF
        obtain ⟨x, hx⟩ : ∃ x, (stepP q b).1.st = x := ⟨_, rfl⟩
        rw [hx]
        have HX := hide hx
        clear hx
        have c9 := HP1.out.st
        have z9 := HP1.out.frozen 15
        have l9 := HP1.out.lt
        try simp only at c9
        go_wp2
        go_roundw
        case rel =>
          have hf9 : Fr w1.heap.size g w1 (w1.setCell ⟨g, 15, none⟩ (.int .i64 x)) := Fr.put 15 _
          refine ⟨k + 1, by omega, by go_num, ?_, ?_, HF1.out.trans (Fr.put 15 _)⟩
          · rw [HNX.out]; have := HP1.out.setst x; rw [← HX.out] at this ⊢; exact this
          · rw [HNX.out]; exact HT1.out.fr HP1.out hf9
        case measure => simp [intOf]; omega
      · obtain ⟨⟨h32, h127l⟩, hs⟩ := hb
        have h128 : b < 128 := by omega
        have h24 : (b == 24) = false := by simp; omega
        have h26 : (b == 26) = false := by simp; omega
        have h27 : (b == 27) = false := by simp; omega
        have h127 : (b == 127) = false := by simp; omega
        by_cases h64 : 64 ≤ b
        · have HST := hide (step_s4 (p := q) (b := b) (by omega) (by omega) hs)
          have HFI : Hid (finB b = true) := by unfold Hid finB; simp; omega
          rw [if_pos h64] at HST
          rw [hs] at c15
          go_wp2_with fail
          refine (final_any b wr b0 b1).mono ?_
          rintro e w1 ⟨rfl, rfl⟩
          rw [HFI.out]
          have c9 := HP.out.st
          have z9 := HP.out.frozen 15
          have l9 := HP.out.lt
          try simp only at c9
          go_wp2
          go_roundw
          case rel =>
            have hf9 : Fr wr.heap.size g wr (wr.setCell ⟨g, 15, none⟩ (.int .i64 (0))) := Fr.put 15 _
            refine ⟨k + 1, by omega, by go_num, ?_, ?_, HF.out.trans (Fr.put 15 _)⟩
            · rw [HNX.out, HST.out]; exact HP.out.setst (0)
            · rw [HNX.out, HST.out]; have := HT.out.fr HP.out hf9; simpa using this
          case measure => simp [intOf]; omega
        · have HST := hide (step_s4 (p := q) (b := b) (by omega) (by omega) hs)
          have HFI : Hid (finB b = false) := by unfold Hid finB; simp; omega
          rw [if_neg h64, ← hs] at HST
          rw [hs] at c15
          go_wp2_with fail
          refine (final_any b wr b0 b1).mono ?_
          rintro e w1 ⟨rfl, rfl⟩
          rw [HFI.out]
          go_wp2
          go_roundw
          case rel =>
            refine ⟨k + 1, by omega, by go_num, ?_, ?_, HF.out⟩
            · rw [HNX.out, HST.out]; exact HP.out
            · rw [HNX.out, HST.out]; have := HT.out; simpa using this
          case measure => simp [intOf]; omega
    · have HTK : Hid (bs.take k = bs) := by unfold Hid; exact List.take_of_length_le (by rw [HN.out]; omega)
      rw [HTK.out] at hp ht
      obtain ⟨v, hv, ho⟩ := ht.var
      have c1 : wr.cell? ⟨gL, 0, none⟩ = some v := hv.cell 0
      have l1 := hv.lt
      obtain ⟨A9, n9, c9, rfl⟩ := ho.slice
      have HP := hide hp
      have HO := hide ho
      have HF := hide hfr
      rw [HGL.out]
      clear hp ht hfr ho hv
      go_wp2
      rw [Exit.noGoto_ret]
      go_ret
      exact ⟨_, rfl, HO.out, HP.out, HF.out⟩
end Go.Proofs.Ytfngnmopdfojmaa
