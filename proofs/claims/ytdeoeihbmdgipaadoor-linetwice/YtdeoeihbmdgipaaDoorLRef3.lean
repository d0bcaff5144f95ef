/-
  Contracts: the document's Erase and Fit.
-/
import Derived.Test.YtdeoeihbmdgipaaDoorLRef2
import Derived.Test.YtdeoeihbmdgipaaDoorLErase
namespace Go.Proofs.YtdeoeihbmdgipaaDoor
open Go.ChangeShapes Go.WideShapes Go.ChangeAt Go.RowKit
set_option linter.unusedVariables false

theorem OwnC.from {e : TypeId} {k : IntKind} {B : Nat} {w w1 wr : World} {v : Value} {cs : List Cel} (h : OwnC e k w1.heap.size w1 wr v cs) (hb : Below B w w1) (hB : B ≤ w1.heap.size) : OwnC e k B w wr v cs := by
  refine ⟨⟨h.own.1, ?_⟩, hb.trans (h.bel.mono hB), Nat.le_trans hB h.le⟩
  rcases h.own.2 with h0 | ⟨g, cap, cur, hv, hg, h1⟩
  · exact .inl h0
  · exact .inr ⟨g, cap, cur, hv, Nat.le_trans hB hg, h1⟩
def eraseAt (cs : List Cel) (x y : Int) (p : Pn) (i : Nat) : Cel := if x ≤ (i : Int) ∧ (i : Int) < y then blankC p else cAt cs i
theorem eraseTab_is (cs : List Cel) (x y : Int) (p : Pn) : eraseTab cs x y p = tab cs.length (eraseAt cs x y p) := rfl
theorem eraseAt_no {cs : List Cel} {x y : Int} {p : Pn} {i : Nat} (h : ¬ (x ≤ (i : Int) ∧ (i : Int) < y)) : eraseAt cs x y p i = cAt cs i := by unfold eraseAt; rw [if_neg h]
theorem eraseAt_yes {cs : List Cel} {x y : Int} {p : Pn} {i : Nat} (h : x ≤ (i : Int) ∧ (i : Int) < y) : eraseAt cs x y p i = blankC p := by unfold eraseAt; rw [if_pos h]
def fitAt (cs : List Cel) (i : Nat) : Cel := if i < cs.length then cAt cs i else blankC zeroP
theorem fitTab_is (cs : List Cel) (n : Int) : fitTab cs n = tab (lenN n) (fitAt cs) := rfl
theorem fitAt_yes {cs : List Cel} {i : Nat} (h : i < cs.length) : fitAt cs i = cAt cs i := by unfold fitAt; rw [if_pos h]
theorem fitAt_no {cs : List Cel} {i : Nat} (h : ¬ i < cs.length) : fitAt cs i = ⟨32, 0, 0, 1, ⟨0, 0, 0⟩⟩ := by unfold fitAt; rw [if_neg h]; rfl
set_option maxRecDepth 100000 in
set_option maxHeartbeats 1000000 in
theorem rerase_any (A : Option Addr) (n c : Nat) (X Y : Int) (F G B : Nat) (cs : List Cel) (w : World) (h : Cels .i64 w A cs) (hn : cs.length = n) (hl : n ≤ 1000000) :
    Calls Tryd.prog 17 #[.slice A n c, .int .i64 X, .int .i64 Y, .agg #[.int .u8 (F : Int), .int .u8 (G : Int), .int .u8 (B : Int)]] w (MadeC 38 .i64 w (eraseC cs X Y ⟨F, G, B⟩)) := by
  have HN := hide hn
  obtain ⟨W0, hW0⟩ : ∃ W0, w.alloc (.cells #[.int .u8 (F : Int), .int .u8 (G : Int), .int .u8 (B : Int)] 36) = W0 := ⟨_, rfl⟩
  have HB0 : Hid (Below w.heap.size w W0) := by unfold Hid; rw [← hW0]; exact (Below.refl _ _).alloc (Nat.le_refl _) _
  have HP0 : Hid (Whole W0 w.heap.size 36 [.int .u8 (F : Int), .int .u8 (G : Int), .int .u8 (B : Int)]) := by unfold Hid; rw [← hW0]; exact Whole.new w 36 [.int .u8 (F : Int), .int .u8 (G : Int), .int .u8 (B : Int)]
  have HC : Hid (Cels .i64 W0 A cs) := by unfold Hid; rw [← hW0]; exact h.alloc _
  have HW0 := hide hW0
  clear h hn hW0
  go_enter Tryd.func17, Tryd.ntmps17
  go_wp2
  rw [HW0.out]
  go_loopw [9, 10, 11] (fun v i _ wr => ∃ k : Nat, k ≤ n ∧ i = .int .i64 k ∧ OwnC 38 .i64 W0.heap.size W0 wr v (tab k (eraseAt cs X Y ⟨F, G, B⟩))) (fun _ i _ _ => n - (intOf i).toNat)
  case atStart => exact ⟨0, Nat.zero_le _, rfl, OwnC.start (Nat.le_refl _)⟩
  case round =>
    obtain ⟨k, hk, rfl, hown⟩ := hrel
    have HV := hide hown
    clear hown
    by_cases hlt : k < n
    · obtain ⟨b1, o1, rfl, l1, -⟩ := HC.out.at (i := k) (by rw [HN.out]; exact hlt)
      obtain ⟨⟨r, x, y, z, ⟨f, g, b⟩⟩, hc⟩ : ∃ q, cAt cs k = q := ⟨_, rfl⟩
      obtain ⟨a0, a1, a2, a3, a4, a5, a6, -⟩ := (HC.out.below HV.out.bel).sevenC k (by rw [HN.out]; exact hlt) hc
      have HK := hide hc
      clear hc
      have cases3 : (X ≤ (k : Int) ∧ (k : Int) < Y) ∨ (k : Int) < X ∨ (X ≤ (k : Int) ∧ Y ≤ (k : Int)) := by omega
      rcases cases3 with ⟨h1, h2⟩ | h1 | ⟨h1, h2⟩
      · have HM := hide (eraseAt_yes (cs := cs) (p := ⟨F, G, B⟩) ⟨h1, h2⟩)
        obtain ⟨p0, p1, p2, pl⟩ := cells3 (HP0.out.later HV.out.bel)
        obtain ⟨W1, hW1⟩ : ∃ W1, wr.alloc (.cells #[.int .i64 r, .int .i64 x, .int .i64 y, .int .u8 (z : Int), .int .u8 (f : Int), .int .u8 (g : Int), .int .u8 (b : Int)] 38) = W1 := ⟨_, rfl⟩
        have HA : Hid (Whole W1 wr.heap.size 38 [.int .i64 r, .int .i64 x, .int .i64 y, .int .u8 (z : Int), .int .u8 (f : Int), .int .u8 (g : Int), .int .u8 (b : Int)]) := by unfold Hid; rw [← hW1]; exact Whole.new wr 38 [.int .i64 r, .int .i64 x, .int .i64 y, .int .u8 (z : Int), .int .u8 (f : Int), .int .u8 (g : Int), .int .u8 (b : Int)]
        have HBB : Hid (Below wr.heap.size wr W1) := by unfold Hid; rw [← hW1]; exact (Below.refl _ _).alloc (Nat.le_refl _) _
        have HW1 := hide hW1
        clear hW1
        go_wp2_with fail
        rw [HW1.out]
        refine (rblank_v F G B W1).mono ?_
        rintro e w2 ⟨rfl, hb2⟩
        have HB2 := hide (HBB.out.trans (hb2.mono HBB.out.size))
        have HA2 := hide (HA.out.later hb2)
        clear a0 a1 a2 a3 a4 a5 a6 p0 p1 p2 pl hb2
        obtain ⟨a0, a1, a2, a3, a4, a5, a6, a7⟩ := cells7 HA2.out
        go_wp2_with (at_builtin; refine stopw ?_)
        unfold Hid
        refine wpList_pushQ elemLC ⟨32, 0, 0, 1, ⟨F, G, B⟩⟩ (w2.heap.size) rfl _ _ rfl rfl rfl (HV.out.later (below_put7 HB2.out (Nat.le_refl _) _ _ _ _ _ _ _)) (by simp) (by rw [tab_len]; omega) (by omega) ?_
        intro v' wn hn1
        have HV' := hide (hn1.snoc HM.out)
        clear hn1 a0 a1 a2 a3 a4 a5 a6 a7
        go_wp2
        go_roundw
        case rel => exact ⟨k + 1, by omega, by go_num, HV'.out⟩
        case measure => simp [intOf]; omega
      · have HM := hide (eraseAt_no (cs := cs) (y := Y) (p := ⟨F, G, B⟩) (i := k) (x := X) (by omega))
        rw [HK.out] at HM
        go_wp2_with (at_builtin; refine stopw ?_)
        unfold Hid
        refine wpList_pushQ elemLC ⟨r, x, y, z, ⟨f, g, b⟩⟩ (wr.heap.size + 1) rfl _ _ rfl rfl rfl (HV.out.alloc _) (by simp) (by rw [tab_len]; omega) (by omega) ?_
        intro v' wn hn1
        have HV' := hide (hn1.snoc HM.out)
        clear hn1 a0 a1 a2 a3 a4 a5 a6
        go_wp2
        go_roundw
        case rel => exact ⟨k + 1, by omega, by go_num, HV'.out⟩
        case measure => simp [intOf]; omega
      · have HM := hide (eraseAt_no (cs := cs) (y := Y) (p := ⟨F, G, B⟩) (i := k) (x := X) (by omega))
        rw [HK.out] at HM
        go_wp2_with (at_builtin; refine stopw ?_)
        unfold Hid
        refine wpList_pushQ elemLC ⟨r, x, y, z, ⟨f, g, b⟩⟩ (wr.heap.size + 1) rfl _ _ rfl rfl rfl (HV.out.alloc _) (by simp) (by rw [tab_len]; omega) (by omega) ?_
        intro v' wn hn1
        have HV' := hide (hn1.snoc HM.out)
        clear hn1 a0 a1 a2 a3 a4 a5 a6
        go_wp2
        go_roundw
        case rel => exact ⟨k + 1, by omega, by go_num, HV'.out⟩
        case measure => simp [intOf]; omega
    · obtain rfl : k = n := by omega
      obtain ⟨A3, c3, hv, hc3, hcap, hnil, hmax⟩ := HV.out.form
      rw [tab_len] at hv
      subst hv
      have HC3 : Hid (Cels .i64 wr A3 (eraseTab cs X Y ⟨F, G, B⟩)) := by unfold Hid; rw [eraseTab_is, HN.out]; exact hc3
      clear hc3 hcap hnil hmax
      go_wp2_with fail
      refine (rmend_any A3 k c3 (eraseTab cs X Y ⟨F, G, B⟩) wr HC3.out (by rw [eraseTab_len, HN.out]) hl).mono ?_
      rintro e w2 ⟨v2, rfl, ho2⟩
      have HO2 := hide (ho2.from (HV.out.bel) HV.out.le)
      clear ho2
      go_wp2
      go_ret
      exact ⟨_, rfl, HO2.out.from HB0.out HB0.out.size⟩
set_option maxRecDepth 100000 in
set_option maxHeartbeats 1000000 in
theorem rlfit_any (A : Option Addr) (n c : Nat) (X : Int) (cs : List Cel) (w : World) (h : Cels .i64 w A cs) (hn : cs.length = n) (hl : n ≤ 1000000) :
    Calls Tryd.prog 19 #[.slice A n c, .int .i64 X] w (MadeC 38 .i64 w (fitC cs X)) := by
  have HN := hide hn
  have HC := hide h
  obtain ⟨N, hN⟩ : ∃ N, lenN X = N := ⟨_, rfl⟩
  have hNl : N ≤ 512 := by rw [← hN]; exact lenN_le X
  have HX := hide hN
  clear h hn hN
  go_enter Tryd.func19, Tryd.ntmps19
  go_wp2
  go_loopw [5, 6, 7] (fun v i _ wr => ∃ k : Nat, k ≤ N ∧ i = .int .i64 k ∧ OwnC 38 .i64 w.heap.size w wr v (tab k (fitAt cs))) (fun _ i _ _ => N - (intOf i).toNat)
  case atStart => exact ⟨0, Nat.zero_le _, rfl, OwnC.start (Nat.le_refl _)⟩
  case round =>
    obtain ⟨k, hk, rfl, hown⟩ := hrel
    have HV := hide hown
    clear hown
    go_wp2_with fail
    refine (length_any X wr).mono ?_
    rintro e w1 ⟨rfl, rfl⟩
    rw [HX.out]
    by_cases hlt : k < N
    · go_wp2_with fail
      refine (rblank_v 0 0 0 wr).mono ?_
      rintro e w1 ⟨rfl, hb1⟩
      have HV1 := hide (HV.out.later hb1)
      clear hb1
      by_cases hin : k < n
      · obtain ⟨b1, o1, rfl, l1, -⟩ := HC.out.at (i := k) (by rw [HN.out]; exact hin)
        have l2 : b1 < w1.heap.size := Nat.lt_of_lt_of_le l1 HV1.out.le
        obtain ⟨⟨r, x, y, z, ⟨f, g, b⟩⟩, hc⟩ : ∃ q, cAt cs k = q := ⟨_, rfl⟩
        obtain ⟨a0, a1, a2, a3, a4, a5, a6, -⟩ := (HC.out.below HV1.out.bel).sevenC k (by rw [HN.out]; exact hin) hc
        have HM := hide (fitAt_yes (cs := cs) (i := k) (by rw [HN.out]; exact hin))
        rw [hc] at HM
        clear hc
        go_wp2_with (at_builtin; refine stopw ?_)
        unfold Hid
        refine wpList_pushQ elemLC ⟨r, x, y, z, ⟨f, g, b⟩⟩ (w1.heap.size + 1) rfl _ _ rfl rfl rfl (HV1.out.alloc _) (by simp) (by rw [tab_len]; omega) (by omega) ?_
        intro v' wn hn1
        have HV' := hide (hn1.snoc HM.out)
        clear hn1 a0 a1 a2 a3 a4 a5 a6
        go_wp2
        go_roundw
        case rel => exact ⟨k + 1, by omega, by go_num, HV'.out⟩
        case measure => simp [intOf]; omega
      · have HM := hide (fitAt_no (cs := cs) (i := k) (by rw [HN.out]; exact hin))
        go_wp2_with (at_builtin; refine stopw ?_)
        unfold Hid
        refine wpList_pushQ elemLC ⟨32, 0, 0, 1, ⟨0, 0, 0⟩⟩ (w1.heap.size + 1) rfl _ _ rfl rfl rfl (HV1.out.alloc _) (by simp) (by rw [tab_len]; omega) (by omega) ?_
        intro v' wn hn1
        have HV' := hide (hn1.snoc HM.out)
        clear hn1 hin
        go_wp2
        go_roundw
        case rel => exact ⟨k + 1, by omega, by go_num, HV'.out⟩
        case measure => simp [intOf]; omega
    · obtain rfl : k = N := by omega
      obtain ⟨A3, c3, hv, hc3, hcap, hnil, hmax⟩ := HV.out.form
      rw [tab_len] at hv
      subst hv
      have HC3 : Hid (Cels .i64 wr A3 (fitTab cs X)) := by unfold Hid; rw [fitTab_is, HX.out]; exact hc3
      clear hc3 hcap hnil hmax
      go_wp2_with fail
      refine (rmend_any A3 k c3 (fitTab cs X) wr HC3.out (by rw [fitTab_len, HX.out]) (by omega)).mono ?_
      rintro e w2 ⟨v2, rfl, ho2⟩
      have HO2 := hide (ho2.from (HV.out.bel) HV.out.le)
      clear ho2
      go_wp2
      go_ret
      exact ⟨_, rfl, HO2.out⟩
end Go.Proofs.YtdeoeihbmdgipaaDoor
