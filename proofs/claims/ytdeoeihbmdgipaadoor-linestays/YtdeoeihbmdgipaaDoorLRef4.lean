/-
  Contracts: the document's Put and Mark.
-/
import Derived.Test.YtdeoeihbmdgipaaDoorLRef3
import Derived.Test.YtdeoeihbmdgipaaDoorLPut
import Derived.Test.YtdeoeihbmdgipaaDoorCRRight
namespace Go.Proofs.YtdeoeihbmdgipaaDoor
open Go.ChangeShapes Go.WideShapes Go.ChangeAt Go.RowKit
set_option linter.unusedVariables false

/-- The call gave this line, wherever it lies, and told whether; all that was there is left. -/
def LineV2 (k : IntKind) (cs : List Cel) (ok : Bool) (w : World) (e : Ending) (w' : World) : Prop := ∃ A c, e = .returned (.tuple #[.slice A cs.length c, .bool ok]) ∧ Cels k w' A cs ∧ Below w.heap.size w w'
def putAt (cs : List Cel) (k : Nat) (c : Cel) (i : Nat) : Cel := if i = k then c else if i = k + 1 ∧ c.w = 2 then restC c else cAt cs i
theorem putTab_is (cs : List Cel) (k : Nat) (c : Cel) : putTab cs k c = tab cs.length (putAt cs k c) := rfl
theorem putAt_a (cs : List Cel) (k : Nat) (c : Cel) : putAt cs k c k = c := by unfold putAt; rw [if_pos rfl]
theorem putAt_b {cs : List Cel} {k : Nat} {c : Cel} (h : c.w = 2) : putAt cs k c (k + 1) = restC c := by unfold putAt; rw [if_neg (by omega), if_pos ⟨rfl, h⟩]
theorem putAt_c {cs : List Cel} {k : Nat} {c : Cel} {i : Nat} (h : i ≠ k) (h2 : ¬ (i = k + 1 ∧ c.w = 2)) : putAt cs k c i = cAt cs i := by unfold putAt; rw [if_neg h, if_neg h2]
set_option maxRecDepth 100000 in
set_option maxHeartbeats 2000000 in
theorem rput_any (A : Option Addr) (n c : Nat) (at_ : Int) (r m x : Int) (d f g b : Nat) (hd : d < 256) (cs : List Cel) (w : World) (h : Cels .i64 w A cs) (hn : cs.length = n) (hl : n ≤ 1000000) (ha : -9223372036854775808 ≤ at_ ∧ at_ < 9223372036854775808) :
    Calls Tryd.prog 10 #[.slice A n c, .int .i64 at_, .agg #[.int .i64 r, .int .i64 m, .int .i64 x, .int .u8 (d : Int), .int .u8 (f : Int), .int .u8 (g : Int), .int .u8 (b : Int)]] w (LineV2 .i64 (putC cs at_ ⟨r, m, x, d, ⟨f, g, b⟩⟩) (putOk cs at_ ⟨r, m, x, d, ⟨f, g, b⟩⟩) w) := by
  have HN := hide hn
  obtain ⟨W0, hW0⟩ : ∃ W0, w.alloc (.cells #[.int .i64 r, .int .i64 m, .int .i64 x, .int .u8 (d : Int), .int .u8 (f : Int), .int .u8 (g : Int), .int .u8 (b : Int)] 38) = W0 := ⟨_, rfl⟩
  have HB0 : Hid (Below w.heap.size w W0) := by unfold Hid; rw [← hW0]; exact (Below.refl _ _).alloc (Nat.le_refl _) _
  have HP0 : Hid (Whole W0 w.heap.size 38 [.int .i64 r, .int .i64 m, .int .i64 x, .int .u8 (d : Int), .int .u8 (f : Int), .int .u8 (g : Int), .int .u8 (b : Int)]) := by unfold Hid; rw [← hW0]; exact Whole.new w 38 [.int .i64 r, .int .i64 m, .int .i64 x, .int .u8 (d : Int), .int .u8 (f : Int), .int .u8 (g : Int), .int .u8 (b : Int)]
  have HC0 : Hid (Cels .i64 W0 A cs) := by unfold Hid; rw [← hW0]; exact h.alloc _
  have HW0 := hide hW0
  obtain ⟨R, hR⟩ : ∃ R, rightC ⟨r, m, x, d, ⟨f, g, b⟩⟩ = R := ⟨_, rfl⟩
  have key : (R = false ∧ putOk cs at_ ⟨r, m, x, d, ⟨f, g, b⟩⟩ = false) ∨ (R = true ∧ d = 0 ∧ putOk cs at_ ⟨r, m, x, d, ⟨f, g, b⟩⟩ = false) ∨ (R = true ∧ d ≠ 0 ∧ at_ < 0 ∧ putOk cs at_ ⟨r, m, x, d, ⟨f, g, b⟩⟩ = false) ∨ (R = true ∧ d ≠ 0 ∧ 0 ≤ at_ ∧ (n : Int) ≤ at_ ∧ putOk cs at_ ⟨r, m, x, d, ⟨f, g, b⟩⟩ = false) ∨ (R = true ∧ d = 2 ∧ 0 ≤ at_ ∧ at_ = (n : Int) - 1 ∧ putOk cs at_ ⟨r, m, x, d, ⟨f, g, b⟩⟩ = false) ∨ (R = true ∧ d = 2 ∧ 0 ≤ at_ ∧ at_ < (n : Int) - 1 ∧ putOk cs at_ ⟨r, m, x, d, ⟨f, g, b⟩⟩ = true) ∨ (R = true ∧ d = 1 ∧ 0 ≤ at_ ∧ at_ < (n : Int) ∧ putOk cs at_ ⟨r, m, x, d, ⟨f, g, b⟩⟩ = true) := by
    cases R
    · exact .inl ⟨rfl, putOk_no (by rw [hR]; simp)⟩
    · refine .inr ?_
      by_cases h0 : d = 0
      · exact .inl ⟨rfl, h0, putOk_no (by simp [h0])⟩
      refine .inr ?_
      by_cases h1 : at_ < 0
      · exact .inl ⟨rfl, h0, h1, putOk_no (by rintro ⟨_, _, q, _⟩; omega)⟩
      refine .inr ?_
      by_cases h2 : (n : Int) ≤ at_
      · exact .inl ⟨rfl, h0, by omega, h2, putOk_no (by rintro ⟨_, _, _, q⟩; simp only at q; omega)⟩
      refine .inr ?_
      have hd2 : d = 1 ∨ d = 2 := by rcases right_w hR with q | q | q; exact absurd q h0; exact .inl q; exact .inr q
      rcases hd2 with q | q
      · exact .inr (.inr ⟨rfl, q, by omega, by omega, putOk_yes ⟨hR, h0, by omega, by simp only; omega⟩⟩)
      · by_cases h3 : at_ = (n : Int) - 1
        · exact .inl ⟨rfl, q, by omega, h3, putOk_no (by rintro ⟨_, _, _, q⟩; simp only at q; omega)⟩
        · exact .inr (.inl ⟨rfl, q, by omega, by omega, putOk_yes ⟨hR, h0, by omega, by simp only; omega⟩⟩)
  have HR := hide hR
  clear h hn hW0 hR
  obtain ⟨a0, a1, a2, a3, a4, a5, a6, -⟩ := cells7 HP0.out
  go_enter Tryd.func10, Tryd.ntmps10
  go_wp2_with fail
  rw [HW0.out]
  refine (rcright_any r m x d f g b hd W0).mono ?_
  rintro e w2 ⟨rfl, hb⟩
  rw [HR.out]
  clear a0 a1 a2 a3 a4 a5 a6
  have HB2 := hide (HB0.out.trans (hb.mono HB0.out.size))
  have HP2 := hide (HP0.out.later hb)
  have HC2 := hide (HC0.out.below hb)
  clear hb HC0 HP0 HB0
  obtain ⟨a0, a1, a2, a3, a4, a5, a6, -⟩ := cells7 HP2.out
  rcases key with ⟨rfl, hk⟩ | ⟨rfl, h0, hk⟩ | ⟨rfl, h0, h1, hk⟩ | ⟨rfl, h0, h1, h2, hk⟩ | ⟨rfl, h0, h1, h2, hk⟩ | ⟨rfl, h0, h1, h2, hk⟩ | ⟨rfl, h0, h1, h2, hk⟩
  · have HK := hide hk
    clear hk
    go_wp2
    go_ret2
    exact ⟨A, c, by rw [HK.out, put_no HK.out, HN.out]; rfl, by rw [put_no HK.out]; exact HC2.out, HB2.out⟩
  · have HK := hide hk
    have e0 : ((d : Int) == 0) = true := by simp; omega
    clear hk h0
    go_wp2
    go_ret2
    exact ⟨A, c, by rw [HK.out, put_no HK.out, HN.out]; rfl, by rw [put_no HK.out]; exact HC2.out, HB2.out⟩
  · have HK := hide hk
    have e0 : ((d : Int) == 0) = false := by simp; omega
    clear hk h0
    go_wp2
    go_ret2
    exact ⟨A, c, by rw [HK.out, put_no HK.out, HN.out]; rfl, by rw [put_no HK.out]; exact HC2.out, HB2.out⟩
  · have HK := hide hk
    have e0 : ((d : Int) == 0) = false := by simp; omega
    clear hk h0
    go_wp2
    go_ret2
    exact ⟨A, c, by rw [HK.out, put_no HK.out, HN.out]; rfl, by rw [put_no HK.out]; exact HC2.out, HB2.out⟩
  · have HK := hide hk
    have e0 : ((d : Int) == 0) = false := by simp; omega
    have e2 : ((d : Int) == 2) = true := by simp; omega
    have e3 : (at_ == (n : Int) - 1) = true := by simp; omega
    clear hk h0
    go_wp2
    go_ret2
    exact ⟨A, c, by rw [HK.out, put_no HK.out, HN.out]; rfl, by rw [put_no HK.out]; exact HC2.out, HB2.out⟩
  · obtain ⟨k0, rfl⟩ : ∃ k0 : Nat, at_ = (k0 : Int) := ⟨at_.toNat, by omega⟩
    have HK := hide hk
    have e0 : ((d : Int) == 0) = false := by simp; omega
    have e2 : ((d : Int) == 2) = true := by simp; omega
    have e3 : ((k0 : Int) == (n : Int) - 1) = false := by simp; omega
    have HD2 := hide h0
    clear h0 hk h1
    go_wp2
    clear a0 a1 a2 a3 a4 a5 a6
    try generalize decide (n ≤ k0) = B1
    try generalize decide ((k0 : Int) < 0) = B2
    go_loopw [8, 9] (fun v i wr => ∃ k : Nat, k ≤ n ∧ i = .int .i64 k ∧ OwnC 38 .i64 w2.heap.size w2 wr v (tab k (putAt cs k0 ⟨r, m, x, d, ⟨f, g, b⟩⟩))) (fun _ i _ => n - (intOf i).toNat)
    case atStart => exact ⟨0, Nat.zero_le _, rfl, OwnC.start (Nat.le_refl _)⟩
    case round =>
      obtain ⟨k, hk, rfl, hown⟩ := hrel
      have HV := hide hown
      clear hown
      by_cases hlt : k < n
      · by_cases hk0 : k = k0
        · have HM : Hid (putAt cs k0 ⟨r, m, x, d, ⟨f, g, b⟩⟩ k = ⟨r, m, x, d, ⟨f, g, b⟩⟩) := by unfold Hid; rw [hk0]; exact putAt_a cs k0 _
          have q0 : ((k : Int) == (k0 : Int)) = true := by simp; omega
          obtain ⟨a0, a1, a2, a3, a4, a5, a6, -⟩ := cells7 (HP2.out.later HV.out.bel)
          go_wp2_with (at_builtin; refine stopw ?_)
          unfold Hid
          refine wpList_pushC elemLC ⟨r, m, x, d, ⟨f, g, b⟩⟩ rfl _ _ rfl rfl rfl (HV.out) (by rw [tab_len]; omega) (by omega) ?_
          intro v' wn hn1
          have HV' := hide (hn1.snoc HM.out)
          clear hn1 a0 a1 a2 a3 a4 a5 a6
          go_wp2
          go_roundw
          case rel => exact ⟨k + 1, by omega, by go_num, HV'.out⟩
          case measure => simp [intOf]; omega
        · have q0 : ((k : Int) == (k0 : Int)) = false := by simp; omega
          by_cases hk1 : k = k0 + 1
          · have q1 : ((k : Int) == (k0 : Int) + 1) = true := by simp; omega
            have HM := hide (putAt_b (cs := cs) (k := k0) (c := ⟨r, m, x, d, ⟨f, g, b⟩⟩) HD2.out)
            subst hk1
            obtain ⟨a0, a1, a2, a3, a4, a5, a6, -⟩ := cells7 (HP2.out.later HV.out.bel)
            go_wp2_with fail
            refine (rrest_v r m x d f g b wr).mono ?_
            rintro e w4 ⟨rfl, hb4⟩
            have HV1 := hide (HV.out.later hb4)
            clear hb4 a0 a1 a2 a3 a4 a5 a6
            go_wp2_with (at_builtin; refine stopw ?_)
            unfold Hid
            refine wpList_pushC elemLC ⟨0, 0, 0, 0, ⟨f, g, b⟩⟩ rfl _ _ rfl rfl rfl (HV1.out) (by rw [tab_len]; omega) (by omega) ?_
            intro v' wn hn1
            have HV' := hide (hn1.snoc HM.out)
            clear hn1
            go_wp2
            go_roundw
            case rel => exact ⟨k0 + 1 + 1, by omega, by go_num, HV'.out⟩
            case measure => simp [intOf]; omega
          · have q1 : ((k : Int) == (k0 : Int) + 1) = false := by simp; omega
            have HM := hide (putAt_c (cs := cs) (c := ⟨r, m, x, d, ⟨f, g, b⟩⟩) (k := k0) (i := k) hk0 (by omega))
            obtain ⟨b1, o1, rfl, l1, -⟩ := HC2.out.at (i := k) (by rw [HN.out]; exact hlt)
            obtain ⟨⟨r', x', y', z', ⟨f', g', b'⟩⟩, hc⟩ : ∃ q, cAt cs k = q := ⟨_, rfl⟩
            rw [hc] at HM
            obtain ⟨a0, a1, a2, a3, a4, a5, a6, -⟩ := (HC2.out.below HV.out.bel).sevenC k (by rw [HN.out]; exact hlt) hc
            clear hc
            go_wp2_with (at_builtin; refine stopw ?_)
            unfold Hid
            refine wpList_pushC elemLC ⟨r', x', y', z', ⟨f', g', b'⟩⟩ rfl _ _ rfl rfl rfl (HV.out) (by rw [tab_len]; omega) (by omega) ?_
            intro v' wn hn1
            have HV' := hide (hn1.snoc HM.out)
            clear hn1 a0 a1 a2 a3 a4 a5 a6
            go_wp2
            go_roundw
            case rel => exact ⟨k + 1, by omega, by go_num, HV'.out⟩
            case measure => simp [intOf]; omega
      · obtain rfl : k = n := by omega
        obtain ⟨A3, c3, hv, hc3, hcap, hnil, hmax⟩ := HV.out.form
        rw [tab_len] at hv
        subst hv
        have HC3 : Hid (Cels .i64 wr A3 (putTab cs k0 ⟨r, m, x, d, ⟨f, g, b⟩⟩)) := by unfold Hid; rw [putTab_is, HN.out]; exact hc3
        clear hc3 hcap hnil hmax
        go_wp2_with fail
        refine (rmend_any A3 k c3 (putTab cs k0 ⟨r, m, x, d, ⟨f, g, b⟩⟩) wr HC3.out (by rw [putTab_len, HN.out]) hl).mono ?_
        rintro e w4 ⟨v2, rfl, ho2⟩
        have HO2 := hide ((ho2.from (HV.out.bel) HV.out.le).from HB2.out HB2.out.size)
        clear ho2
        go_wp2
        go_ret2
        obtain ⟨A5, c5, hv5, hc5, -⟩ := HO2.out.form
        have e9 : putC cs (k0 : Int) ⟨r, m, x, d, ⟨f, g, b⟩⟩ = mendC (putTab cs k0 ⟨r, m, x, d, ⟨f, g, b⟩⟩) := put_yes HK.out
        exact ⟨A5, c5, by rw [HK.out, e9, ← hv5]; rfl, by rw [e9]; exact hc5, HO2.out.bel⟩
  · obtain ⟨k0, rfl⟩ : ∃ k0 : Nat, at_ = (k0 : Int) := ⟨at_.toNat, by omega⟩
    have HK := hide hk
    have e0 : ((d : Int) == 0) = false := by simp; omega
    have e2 : ((d : Int) == 2) = false := by simp; omega
    have HD2 := hide h0
    clear h0 hk h1
    go_wp2
    clear a0 a1 a2 a3 a4 a5 a6
    try generalize decide (n ≤ k0) = B1
    try generalize decide ((k0 : Int) < 0) = B2
    go_loopw [8, 9] (fun v i wr => ∃ k : Nat, k ≤ n ∧ i = .int .i64 k ∧ OwnC 38 .i64 w2.heap.size w2 wr v (tab k (putAt cs k0 ⟨r, m, x, d, ⟨f, g, b⟩⟩))) (fun _ i _ => n - (intOf i).toNat)
    case atStart => exact ⟨0, Nat.zero_le _, rfl, OwnC.start (Nat.le_refl _)⟩
    case round =>
      obtain ⟨k, hk, rfl, hown⟩ := hrel
      have HV := hide hown
      clear hown
      by_cases hlt : k < n
      · by_cases hk0 : k = k0
        · have HM : Hid (putAt cs k0 ⟨r, m, x, d, ⟨f, g, b⟩⟩ k = ⟨r, m, x, d, ⟨f, g, b⟩⟩) := by unfold Hid; rw [hk0]; exact putAt_a cs k0 _
          have q0 : ((k : Int) == (k0 : Int)) = true := by simp; omega
          obtain ⟨a0, a1, a2, a3, a4, a5, a6, -⟩ := cells7 (HP2.out.later HV.out.bel)
          go_wp2_with (at_builtin; refine stopw ?_)
          unfold Hid
          refine wpList_pushC elemLC ⟨r, m, x, d, ⟨f, g, b⟩⟩ rfl _ _ rfl rfl rfl (HV.out) (by rw [tab_len]; omega) (by omega) ?_
          intro v' wn hn1
          have HV' := hide (hn1.snoc HM.out)
          clear hn1 a0 a1 a2 a3 a4 a5 a6
          go_wp2
          go_roundw
          case rel => exact ⟨k + 1, by omega, by go_num, HV'.out⟩
          case measure => simp [intOf]; omega
        · have q0 : ((k : Int) == (k0 : Int)) = false := by simp; omega
          have HM := hide (putAt_c (cs := cs) (c := ⟨r, m, x, d, ⟨f, g, b⟩⟩) (k := k0) (i := k) hk0 (by have := HD2.out; simp only; omega))
          by_cases hk1 : k = k0 + 1
          · have q1 : ((k : Int) == (k0 : Int) + 1) = true := by simp; omega
            subst hk1
            obtain ⟨b1, o1, rfl, l1, -⟩ := HC2.out.at (i := k0 + 1) (by rw [HN.out]; exact hlt)
            obtain ⟨⟨r', x', y', z', ⟨f', g', b'⟩⟩, hc⟩ : ∃ q, cAt cs (k0 + 1) = q := ⟨_, rfl⟩
            rw [hc] at HM
            obtain ⟨a0, a1, a2, a3, a4, a5, a6, -⟩ := (HC2.out.below HV.out.bel).sevenC (k0 + 1) (by rw [HN.out]; exact hlt) hc
            clear hc
            obtain ⟨-, -, -, c3, -, -, -, -⟩ := cells7 (HP2.out.later HV.out.bel)
            go_wp2_with (at_builtin; refine stopw ?_)
            unfold Hid
            refine wpList_pushC elemLC ⟨r', x', y', z', ⟨f', g', b'⟩⟩ rfl _ _ rfl rfl rfl (HV.out) (by rw [tab_len]; omega) (by omega) ?_
            intro v' wn hn1
            have HV' := hide (hn1.snoc HM.out)
            clear hn1 a0 a1 a2 a3 a4 a5 a6 c3
            go_wp2
            go_roundw
            case rel => exact ⟨k0 + 1 + 1, by omega, by go_num, HV'.out⟩
            case measure => simp [intOf]; omega
          · have q1 : ((k : Int) == (k0 : Int) + 1) = false := by simp; omega
            obtain ⟨b1, o1, rfl, l1, -⟩ := HC2.out.at (i := k) (by rw [HN.out]; exact hlt)
            obtain ⟨⟨r', x', y', z', ⟨f', g', b'⟩⟩, hc⟩ : ∃ q, cAt cs k = q := ⟨_, rfl⟩
            rw [hc] at HM
            obtain ⟨a0, a1, a2, a3, a4, a5, a6, -⟩ := (HC2.out.below HV.out.bel).sevenC k (by rw [HN.out]; exact hlt) hc
            clear hc
            go_wp2_with (at_builtin; refine stopw ?_)
            unfold Hid
            refine wpList_pushC elemLC ⟨r', x', y', z', ⟨f', g', b'⟩⟩ rfl _ _ rfl rfl rfl (HV.out) (by rw [tab_len]; omega) (by omega) ?_
            intro v' wn hn1
            have HV' := hide (hn1.snoc HM.out)
            clear hn1 a0 a1 a2 a3 a4 a5 a6
            go_wp2
            go_roundw
            case rel => exact ⟨k + 1, by omega, by go_num, HV'.out⟩
            case measure => simp [intOf]; omega
      · obtain rfl : k = n := by omega
        obtain ⟨A3, c3, hv, hc3, hcap, hnil, hmax⟩ := HV.out.form
        rw [tab_len] at hv
        subst hv
        have HC3 : Hid (Cels .i64 wr A3 (putTab cs k0 ⟨r, m, x, d, ⟨f, g, b⟩⟩)) := by unfold Hid; rw [putTab_is, HN.out]; exact hc3
        clear hc3 hcap hnil hmax
        go_wp2_with fail
        refine (rmend_any A3 k c3 (putTab cs k0 ⟨r, m, x, d, ⟨f, g, b⟩⟩) wr HC3.out (by rw [putTab_len, HN.out]) hl).mono ?_
        rintro e w4 ⟨v2, rfl, ho2⟩
        have HO2 := hide ((ho2.from (HV.out.bel) HV.out.le).from HB2.out HB2.out.size)
        clear ho2
        go_wp2
        go_ret2
        obtain ⟨A5, c5, hv5, hc5, -⟩ := HO2.out.form
        have e9 : putC cs (k0 : Int) ⟨r, m, x, d, ⟨f, g, b⟩⟩ = mendC (putTab cs k0 ⟨r, m, x, d, ⟨f, g, b⟩⟩) := put_yes HK.out
        exact ⟨A5, c5, by rw [HK.out, e9, ← hv5]; rfl, by rw [e9]; exact hc5, HO2.out.bel⟩
theorem flat_set (k : IntKind) (cs : List Cel) (j : Nat) (c : Cel) (h : j < cs.length) : (flatC k cs).take (j * 7) ++ ([.int k c.r, .int k c.m, .int k c.n, .int .u8 (c.w : Int), .int .u8 (c.p.f : Int), .int .u8 (c.p.g : Int), .int .u8 (c.p.b : Int)] ++ (flatC k cs).drop (j * 7 + 7)) = flatC k (cs.set j c) := by
  rw [set_lay cs j c h, flat_lay]
  rfl
/-- A row of the call's own, one cell stored. -/
theorem OwnC.put {e : TypeId} {k : IntKind} {B : Nat} {w wr : World} {g n cap : Nat} {cs : List Cel} (h : OwnC e k B w wr (.slice (some ⟨g, 0, none⟩) n cap) cs) (hn : cs.length = n) (o j : Nat) (ho : o = j * 7) (hj : j < n) (c : Cel) :
    OwnC e k B w (((((((wr.setCell ⟨g, o, none⟩ (.int k c.r)).setCell ⟨g, o + 1, none⟩ (.int k c.m)).setCell ⟨g, o + 2, none⟩ (.int k c.n)).setCell ⟨g, o + 3, none⟩ (.int .u8 (c.w : Int))).setCell ⟨g, o + 4, none⟩ (.int .u8 (c.p.f : Int))).setCell ⟨g, o + 5, none⟩ (.int .u8 (c.p.g : Int))).setCell ⟨g, o + 6, none⟩ (.int .u8 (c.p.b : Int))) (.slice (some ⟨g, 0, none⟩) n cap) (cs.set j c) := by
  subst hn
  have hB : B ≤ g := (h.own.lt g rfl).1
  have s0 := (h.own.stored o (.int k c.r)).1
  have s1 := (s0.stored (o + 1) (.int k c.m)).1
  have s2 := (s1.stored (o + 2) (.int k c.n)).1
  have s3 := (s2.stored (o + 3) (.int .u8 (c.w : Int))).1
  have s4 := (s3.stored (o + 4) (.int .u8 (c.p.f : Int))).1
  have s5 := (s4.stored (o + 5) (.int .u8 (c.p.g : Int))).1
  have s6 := (s5.stored (o + 6) (.int .u8 (c.p.b : Int))).1
  clear s0 s1 s2 s3 s4 s5
  rw [set7 _ o (by rw [flatC_len]; omega)] at s6
  subst ho
  rw [flat_set k cs j c hj] at s6
  refine ⟨?_, (only_cell (j * 7) _ _ _ _ _ _ _).below h.bel h.le hB, ?_⟩
  · rw [List.length_set]; exact s6
  · have := h.le; simp only [World.size_setCell]; exact this
set_option maxRecDepth 100000 in
set_option maxHeartbeats 2000000 in
theorem rlmark_any (A : Option Addr) (n c : Nat) (at_ x : Int) (cs : List Cel) (w : World) (h : Cels .i64 w A cs) (hn : cs.length = n) (hl : n ≤ 1000000) (hA : A = none → c = 0) :
    Calls Tryd.prog 13 #[.slice A n c, .int .i64 at_, .int .i64 x] w (LineV2 .i64 (lmarkC cs at_ x).1 (lmarkC cs at_ x).2 w) := by
  have HC := hide h
  have HN := hide hn
  have HA := hide hA
  clear h hn hA
  by_cases hin : 0 ≤ at_ ∧ at_ < (n : Int)
  · obtain ⟨k, rfl⟩ : ∃ k : Nat, at_ = (k : Int) := ⟨at_.toNat, by omega⟩
    have hk : k < n := by omega
    clear hin
    obtain ⟨b0, o0, rfl, l0, -⟩ := HC.out.at (i := k) (by rw [HN.out]; exact hk)
    by_cases h0 : wAt cs k = 0
    · have e0 : ((wAt cs k : Int) == 0) = true := by simp; omega
      cases hal : aloneC cs k
      · obtain ⟨j, rfl⟩ : ∃ j, k = j + 1 := ⟨k - 1, by have := (alone_0 h0 hal).1; omega⟩
        have HJ := hide (mkAt_not h0 hal)
        have h2 : wAt cs j = 2 := (alone_0 h0 hal).2
        have c3 := HC.out.wide (j + 1) (by rw [HN.out]; exact hk)
        obtain ⟨⟨r, m, y, d, ⟨f, z, b⟩⟩, hc⟩ : ∃ q, cAt cs j = q := ⟨_, rfl⟩
        obtain ⟨⟨⟨r1, m1, y1, d1, ⟨f1, z1, b1⟩⟩, ok⟩, hm⟩ : ∃ q, markC (cAt cs j) x = q := ⟨_, rfl⟩
        have HE := hide (lmark_yes (by rw [HN.out]; omega) HJ.out hm)
        rw [hc] at hm
        have HM := hide hm
        clear hm
        obtain ⟨v0, v1, v2, v3, v4, v5, v6, -⟩ := HC.out.sevenC j (by rw [HN.out]; omega) hc
        have e2 : ((d : Int) == 2) = true := by have q := wAt_of (by rw [HN.out]; omega) hc; simp; omega
        clear h0 hal h2
        clear hc
        go_enter Tryd.func13, Tryd.ntmps13
        go_wp2_with fail
        refine (rcmark_v r m y d f z b x r1 m1 y1 d1 f1 z1 b1 ok HM.out w).mono ?_
        rintro e w2 ⟨rfl, hb⟩
        clear v0 v1 v2 v3 v4 v5 v6
        have hb8 := hb.alloc hb.size (.cells #[.int .i64 r1, .int .i64 m1, .int .i64 y1, .int .u8 (d1 : Int), .int .u8 (f1 : Int), .int .u8 (z1 : Int), .int .u8 (b1 : Int)] 38)
        obtain ⟨W2, hW2⟩ : ∃ W2, w2.alloc (.cells #[.int .i64 r1, .int .i64 m1, .int .i64 y1, .int .u8 (d1 : Int), .int .u8 (f1 : Int), .int .u8 (z1 : Int), .int .u8 (b1 : Int)] 38) = W2 := ⟨_, rfl⟩
        rw [hW2] at hb8
        have HB2 := hide hb8
        have HP2 : Hid (Whole W2 w2.heap.size 38 [.int .i64 r1, .int .i64 m1, .int .i64 y1, .int .u8 (d1 : Int), .int .u8 (f1 : Int), .int .u8 (z1 : Int), .int .u8 (b1 : Int)]) := by unfold Hid; rw [← hW2]; exact Whole.new w2 38 [.int .i64 r1, .int .i64 m1, .int .i64 y1, .int .u8 (d1 : Int), .int .u8 (f1 : Int), .int .u8 (z1 : Int), .int .u8 (b1 : Int)]
        have HC2 := hide ((HC.out.below hb8).alloc (.cells #[] 38))
        have hsz : w2.heap.size + 1 = W2.heap.size := by rw [← hW2]; simp
        have HW2 := hide hW2
        clear hb hb8 hW2
        go_wp2_with (at_builtin; refine stopw ?_)
        unfold Hid
        rw [HW2.out]
        refine wpList_catC elemLC rfl _ _ rfl rfl rfl (OwnC.empty W2 38 .i64) HC2.out HN.out HA.out (by simp; omega) (by omega) ?_
        intro v' w5 hown
        rw [List.nil_append] at hown
        obtain ⟨g5, c5, rfl⟩ : ∃ g5 c5, v' = .slice (some ⟨g5, 0, none⟩) n c5 := by
          rcases hown.own.2 with ⟨-, h0⟩ | ⟨g5, c5, cur, hv, -⟩
          · rw [HN.out] at h0; omega
          · exact ⟨g5, c5, by rw [hv, HN.out]⟩
        obtain ⟨A6, c6, hv6, hc6, -⟩ := hown.form
        injection hv6 with q1 q2 q3
        subst q1
        clear q2 q3
        have HO := hide hown
        have hfz : ∀ i, w5.frozen? ⟨g5, i, none⟩ = false := by
          rcases hown.own.2 with ⟨h0, -⟩ | ⟨g, cap, cur, hv, -, hh, -⟩
          · cases h0
          · cases hv; intro i; simp [World.frozen?, hh]
        obtain ⟨⟨r9, m9, y9, d9, ⟨f9, z9, b9⟩⟩, hc9⟩ : ∃ q, cAt cs j = q := ⟨_, rfl⟩
        obtain ⟨v0, v1, v2, v3, v4, v5, v6, -⟩ := hc6.sevenC j (by rw [HN.out]; omega) hc9
        simp only [Nat.zero_add] at v0 v1 v2 v3 v4 v5 v6
        obtain ⟨t0, t1, t2, t3, t4, t5, t6, -⟩ := cells7 (HP2.out.later hown.bel)
        clear hown hc6 hc9
        go_wp2
        go_ret2
        have hfin := HO.out.put HN.out (j * 7) j rfl (by omega) ⟨r1, m1, y1, d1, ⟨f1, z1, b1⟩⟩
        obtain ⟨A7, c7, hv7, hc7, -⟩ := hfin.form
        have hB7 := (hfin.from HB2.out HB2.out.size).bel
        injection hv7 with q1 q2 q3
        subst q1 q3
        exact ⟨_, c5, by rw [HE.out]; simp only [List.length_set]; rw [HN.out]; rfl, by rw [HE.out]; exact hc7, hB7⟩
      · have HJ := hide (mkAt_alone h0 hal)
        have hp : k = 0 ∨ (k ≠ 0 ∧ wAt cs (k - 1) ≠ 2) := by
          by_cases q : k = 0
          · exact .inl q
          · refine .inr ⟨q, fun q2 => ?_⟩
            have : aloneC cs k = false := by unfold aloneC; rw [if_neg (by omega), if_pos h0]; simp [q2]; omega
            rw [this] at hal; cases hal
        rcases hp with hp | ⟨hp, hp2⟩
        · subst hp
          obtain ⟨⟨r, m, y, d, ⟨f, z, b⟩⟩, hc⟩ : ∃ q, cAt cs 0 = q := ⟨_, rfl⟩
          obtain ⟨⟨⟨r1, m1, y1, d1, ⟨f1, z1, b1⟩⟩, ok⟩, hm⟩ : ∃ q, markC (cAt cs 0) x = q := ⟨_, rfl⟩
          have HE := hide (lmark_yes (by rw [HN.out]; omega) HJ.out hm)
          rw [hc] at hm
          have HM := hide hm
          clear hm
          obtain ⟨v0, v1, v2, v3, v4, v5, v6, -⟩ := HC.out.sevenC 0 (by rw [HN.out]; omega) hc
          have e1 : ((d : Int) == 0) = true := by rw [← wAt_of (by rw [HN.out]; exact hk) hc]; exact e0
          simp only [Nat.zero_mul, Nat.add_zero] at v0 v1 v2 v3 v4 v5 v6
          clear h0 hal
          clear hc
          go_enter Tryd.func13, Tryd.ntmps13
          go_wp2_with fail
          refine (rcmark_v r m y d f z b x r1 m1 y1 d1 f1 z1 b1 ok HM.out w).mono ?_
          rintro e w2 ⟨rfl, hb⟩
          clear v0 v1 v2 v3 v4 v5 v6
          have hb8 := hb.alloc hb.size (.cells #[.int .i64 r1, .int .i64 m1, .int .i64 y1, .int .u8 (d1 : Int), .int .u8 (f1 : Int), .int .u8 (z1 : Int), .int .u8 (b1 : Int)] 38)
          obtain ⟨W2, hW2⟩ : ∃ W2, w2.alloc (.cells #[.int .i64 r1, .int .i64 m1, .int .i64 y1, .int .u8 (d1 : Int), .int .u8 (f1 : Int), .int .u8 (z1 : Int), .int .u8 (b1 : Int)] 38) = W2 := ⟨_, rfl⟩
          rw [hW2] at hb8
          have HB2 := hide hb8
          have HP2 : Hid (Whole W2 w2.heap.size 38 [.int .i64 r1, .int .i64 m1, .int .i64 y1, .int .u8 (d1 : Int), .int .u8 (f1 : Int), .int .u8 (z1 : Int), .int .u8 (b1 : Int)]) := by unfold Hid; rw [← hW2]; exact Whole.new w2 38 [.int .i64 r1, .int .i64 m1, .int .i64 y1, .int .u8 (d1 : Int), .int .u8 (f1 : Int), .int .u8 (z1 : Int), .int .u8 (b1 : Int)]
          have HC2 := hide ((HC.out.below hb8).alloc (.cells #[] 38))
          have hsz : w2.heap.size + 1 = W2.heap.size := by rw [← hW2]; simp
          have HW2 := hide hW2
          clear hb hb8 hW2
          go_wp2_with (at_builtin; refine stopw ?_)
          unfold Hid
          rw [HW2.out]
          refine wpList_catC elemLC rfl _ _ rfl rfl rfl (OwnC.empty W2 38 .i64) HC2.out HN.out HA.out (by simp; omega) (by omega) ?_
          intro v' w5 hown
          rw [List.nil_append] at hown
          obtain ⟨g5, c5, rfl⟩ : ∃ g5 c5, v' = .slice (some ⟨g5, 0, none⟩) n c5 := by
            rcases hown.own.2 with ⟨-, h0⟩ | ⟨g5, c5, cur, hv, -⟩
            · rw [HN.out] at h0; omega
            · exact ⟨g5, c5, by rw [hv, HN.out]⟩
          obtain ⟨A6, c6, hv6, hc6, -⟩ := hown.form
          injection hv6 with q1 q2 q3
          subst q1
          clear q2 q3
          have HO := hide hown
          have hfz : ∀ i, w5.frozen? ⟨g5, i, none⟩ = false := by
            rcases hown.own.2 with ⟨h0, -⟩ | ⟨g, cap, cur, hv, -, hh, -⟩
            · cases h0
            · cases hv; intro i; simp [World.frozen?, hh]
          obtain ⟨⟨r9, m9, y9, d9, ⟨f9, z9, b9⟩⟩, hc9⟩ : ∃ q, cAt cs 0 = q := ⟨_, rfl⟩
          obtain ⟨v0, v1, v2, v3, v4, v5, v6, -⟩ := hc6.sevenC 0 (by rw [HN.out]; omega) hc9
          simp only [Nat.zero_mul, Nat.zero_add] at v0 v1 v2 v3 v4 v5 v6
          obtain ⟨t0, t1, t2, t3, t4, t5, t6, -⟩ := cells7 (HP2.out.later hown.bel)
          clear hown hc6 hc9
          go_wp2
          go_ret2
          have hfin := HO.out.put HN.out 0 0 rfl (by omega) ⟨r1, m1, y1, d1, ⟨f1, z1, b1⟩⟩
          obtain ⟨A7, c7, hv7, hc7, -⟩ := hfin.form
          have hB7 := (hfin.from HB2.out HB2.out.size).bel
          injection hv7 with q1 q2 q3
          subst q1 q3
          exact ⟨_, c5, by rw [HE.out]; simp only [List.length_set]; rw [HN.out]; rfl, by rw [HE.out]; exact hc7, hB7⟩
        · obtain ⟨j, rfl⟩ : ∃ j, k = j + 1 := ⟨k - 1, by omega⟩
          rw [show j + 1 - 1 = j by omega] at hp2
          have c4 := HC.out.wide j (by rw [HN.out]; omega)
          have e4 : ((wAt cs j : Int) == 2) = false := by simp; omega
          obtain ⟨⟨r, m, y, d, ⟨f, z, b⟩⟩, hc⟩ : ∃ q, cAt cs (j + 1) = q := ⟨_, rfl⟩
          obtain ⟨⟨⟨r1, m1, y1, d1, ⟨f1, z1, b1⟩⟩, ok⟩, hm⟩ : ∃ q, markC (cAt cs (j + 1)) x = q := ⟨_, rfl⟩
          have HE := hide (lmark_yes (by rw [HN.out]; omega) HJ.out hm)
          rw [hc] at hm
          have HM := hide hm
          clear hm
          obtain ⟨v0, v1, v2, v3, v4, v5, v6, -⟩ := HC.out.sevenC (j + 1) (by rw [HN.out]; omega) hc
          have e1 : ((d : Int) == 0) = true := by rw [← wAt_of (by rw [HN.out]; exact hk) hc]; exact e0
          clear h0 hal hp hp2
          clear hc
          go_enter Tryd.func13, Tryd.ntmps13
          go_wp2_with fail
          refine (rcmark_v r m y d f z b x r1 m1 y1 d1 f1 z1 b1 ok HM.out w).mono ?_
          rintro e w2 ⟨rfl, hb⟩
          clear v0 v1 v2 v3 v4 v5 v6
          have hb8 := hb.alloc hb.size (.cells #[.int .i64 r1, .int .i64 m1, .int .i64 y1, .int .u8 (d1 : Int), .int .u8 (f1 : Int), .int .u8 (z1 : Int), .int .u8 (b1 : Int)] 38)
          obtain ⟨W2, hW2⟩ : ∃ W2, w2.alloc (.cells #[.int .i64 r1, .int .i64 m1, .int .i64 y1, .int .u8 (d1 : Int), .int .u8 (f1 : Int), .int .u8 (z1 : Int), .int .u8 (b1 : Int)] 38) = W2 := ⟨_, rfl⟩
          rw [hW2] at hb8
          have HB2 := hide hb8
          have HP2 : Hid (Whole W2 w2.heap.size 38 [.int .i64 r1, .int .i64 m1, .int .i64 y1, .int .u8 (d1 : Int), .int .u8 (f1 : Int), .int .u8 (z1 : Int), .int .u8 (b1 : Int)]) := by unfold Hid; rw [← hW2]; exact Whole.new w2 38 [.int .i64 r1, .int .i64 m1, .int .i64 y1, .int .u8 (d1 : Int), .int .u8 (f1 : Int), .int .u8 (z1 : Int), .int .u8 (b1 : Int)]
          have HC2 := hide ((HC.out.below hb8).alloc (.cells #[] 38))
          have hsz : w2.heap.size + 1 = W2.heap.size := by rw [← hW2]; simp
          have HW2 := hide hW2
          clear hb hb8 hW2
          go_wp2_with (at_builtin; refine stopw ?_)
          unfold Hid
          rw [HW2.out]
          refine wpList_catC elemLC rfl _ _ rfl rfl rfl (OwnC.empty W2 38 .i64) HC2.out HN.out HA.out (by simp; omega) (by omega) ?_
          intro v' w5 hown
          rw [List.nil_append] at hown
          obtain ⟨g5, c5, rfl⟩ : ∃ g5 c5, v' = .slice (some ⟨g5, 0, none⟩) n c5 := by
            rcases hown.own.2 with ⟨-, h0⟩ | ⟨g5, c5, cur, hv, -⟩
            · rw [HN.out] at h0; omega
            · exact ⟨g5, c5, by rw [hv, HN.out]⟩
          obtain ⟨A6, c6, hv6, hc6, -⟩ := hown.form
          injection hv6 with q1 q2 q3
          subst q1
          clear q2 q3
          have HO := hide hown
          have hfz : ∀ i, w5.frozen? ⟨g5, i, none⟩ = false := by
            rcases hown.own.2 with ⟨h0, -⟩ | ⟨g, cap, cur, hv, -, hh, -⟩
            · cases h0
            · cases hv; intro i; simp [World.frozen?, hh]
          obtain ⟨⟨r9, m9, y9, d9, ⟨f9, z9, b9⟩⟩, hc9⟩ : ∃ q, cAt cs (j + 1) = q := ⟨_, rfl⟩
          obtain ⟨v0, v1, v2, v3, v4, v5, v6, -⟩ := hc6.sevenC (j + 1) (by rw [HN.out]; omega) hc9
          simp only [Nat.zero_add] at v0 v1 v2 v3 v4 v5 v6
          obtain ⟨t0, t1, t2, t3, t4, t5, t6, -⟩ := cells7 (HP2.out.later hown.bel)
          clear hown hc6 hc9
          go_wp2
          go_ret2
          have hfin := HO.out.put HN.out ((j + 1) * 7) (j + 1) rfl (by omega) ⟨r1, m1, y1, d1, ⟨f1, z1, b1⟩⟩
          obtain ⟨A7, c7, hv7, hc7, -⟩ := hfin.form
          have hB7 := (hfin.from HB2.out HB2.out.size).bel
          injection hv7 with q1 q2 q3
          subst q1 q3
          exact ⟨_, c5, by rw [HE.out]; simp only [List.length_set]; rw [HN.out]; rfl, by rw [HE.out]; exact hc7, hB7⟩
    · have HJ := hide (mkAt_same h0)
      obtain ⟨⟨r, m, y, d, ⟨f, z, b⟩⟩, hc⟩ : ∃ q, cAt cs k = q := ⟨_, rfl⟩
      obtain ⟨⟨⟨r1, m1, y1, d1, ⟨f1, z1, b1⟩⟩, ok⟩, hm⟩ : ∃ q, markC (cAt cs k) x = q := ⟨_, rfl⟩
      have HE := hide (lmark_yes (by rw [HN.out]; omega) HJ.out hm)
      rw [hc] at hm
      have HM := hide hm
      clear hm
      obtain ⟨v0, v1, v2, v3, v4, v5, v6, -⟩ := HC.out.sevenC k (by rw [HN.out]; omega) hc
      have e1 : ((d : Int) == 0) = false := by have q := wAt_of (by rw [HN.out]; exact hk) hc; simp; omega
      clear h0
      clear hc
      go_enter Tryd.func13, Tryd.ntmps13
      go_wp2_with fail
      refine (rcmark_v r m y d f z b x r1 m1 y1 d1 f1 z1 b1 ok HM.out w).mono ?_
      rintro e w2 ⟨rfl, hb⟩
      clear v0 v1 v2 v3 v4 v5 v6
      have hb8 := hb.alloc hb.size (.cells #[.int .i64 r1, .int .i64 m1, .int .i64 y1, .int .u8 (d1 : Int), .int .u8 (f1 : Int), .int .u8 (z1 : Int), .int .u8 (b1 : Int)] 38)
      obtain ⟨W2, hW2⟩ : ∃ W2, w2.alloc (.cells #[.int .i64 r1, .int .i64 m1, .int .i64 y1, .int .u8 (d1 : Int), .int .u8 (f1 : Int), .int .u8 (z1 : Int), .int .u8 (b1 : Int)] 38) = W2 := ⟨_, rfl⟩
      rw [hW2] at hb8
      have HB2 := hide hb8
      have HP2 : Hid (Whole W2 w2.heap.size 38 [.int .i64 r1, .int .i64 m1, .int .i64 y1, .int .u8 (d1 : Int), .int .u8 (f1 : Int), .int .u8 (z1 : Int), .int .u8 (b1 : Int)]) := by unfold Hid; rw [← hW2]; exact Whole.new w2 38 [.int .i64 r1, .int .i64 m1, .int .i64 y1, .int .u8 (d1 : Int), .int .u8 (f1 : Int), .int .u8 (z1 : Int), .int .u8 (b1 : Int)]
      have HC2 := hide ((HC.out.below hb8).alloc (.cells #[] 38))
      have hsz : w2.heap.size + 1 = W2.heap.size := by rw [← hW2]; simp
      have HW2 := hide hW2
      clear hb hb8 hW2
      go_wp2_with (at_builtin; refine stopw ?_)
      unfold Hid
      rw [HW2.out]
      refine wpList_catC elemLC rfl _ _ rfl rfl rfl (OwnC.empty W2 38 .i64) HC2.out HN.out HA.out (by simp; omega) (by omega) ?_
      intro v' w5 hown
      rw [List.nil_append] at hown
      obtain ⟨g5, c5, rfl⟩ : ∃ g5 c5, v' = .slice (some ⟨g5, 0, none⟩) n c5 := by
        rcases hown.own.2 with ⟨-, h0⟩ | ⟨g5, c5, cur, hv, -⟩
        · rw [HN.out] at h0; omega
        · exact ⟨g5, c5, by rw [hv, HN.out]⟩
      obtain ⟨A6, c6, hv6, hc6, -⟩ := hown.form
      injection hv6 with q1 q2 q3
      subst q1
      clear q2 q3
      have HO := hide hown
      have hfz : ∀ i, w5.frozen? ⟨g5, i, none⟩ = false := by
        rcases hown.own.2 with ⟨h0, -⟩ | ⟨g, cap, cur, hv, -, hh, -⟩
        · cases h0
        · cases hv; intro i; simp [World.frozen?, hh]
      obtain ⟨⟨r9, m9, y9, d9, ⟨f9, z9, b9⟩⟩, hc9⟩ : ∃ q, cAt cs k = q := ⟨_, rfl⟩
      obtain ⟨v0, v1, v2, v3, v4, v5, v6, -⟩ := hc6.sevenC k (by rw [HN.out]; omega) hc9
      simp only [Nat.zero_add] at v0 v1 v2 v3 v4 v5 v6
      obtain ⟨t0, t1, t2, t3, t4, t5, t6, -⟩ := cells7 (HP2.out.later hown.bel)
      clear hown hc6 hc9
      go_wp2
      go_ret2
      have hfin := HO.out.put HN.out (k * 7) k rfl (by omega) ⟨r1, m1, y1, d1, ⟨f1, z1, b1⟩⟩
      obtain ⟨A7, c7, hv7, hc7, -⟩ := hfin.form
      have hB7 := (hfin.from HB2.out HB2.out.size).bel
      injection hv7 with q1 q2 q3
      subst q1 q3
      exact ⟨_, c5, by rw [HE.out]; simp only [List.length_set]; rw [HN.out]; rfl, by rw [HE.out]; exact hc7, hB7⟩
  · have HE := hide (lmark_no (r := x) (by rw [HN.out]; exact hin))
    by_cases h0 : at_ < 0
    · clear hin
      go_enter Tryd.func13, Tryd.ntmps13
      go_wp2
      go_ret2
      exact ⟨A, c, by rw [HE.out]; simp only; rw [HN.out]; rfl, by rw [HE.out]; exact HC.out, Below.refl _ _⟩
    · have h1 : (n : Int) ≤ at_ := by omega
      clear hin
      go_enter Tryd.func13, Tryd.ntmps13
      go_wp2
      go_ret2
      exact ⟨A, c, by rw [HE.out]; simp only; rw [HN.out]; rfl, by rw [HE.out]; exact HC.out, Below.refl _ _⟩
end Go.Proofs.YtdeoeihbmdgipaaDoor
