/-
  Contracts: the law's Cut and Of; the document's New, Mend, Erase, Fit.
-/
import Derived.Test.YtdeoeihbmdgipaaDoorLOwn
import Derived.Test.YtdeoeihbmdgipaaDoorCOk
namespace Go.Proofs.YtdeoeihbmdgipaaDoor
open Go.ChangeShapes Go.WideShapes Go.ChangeAt Go.RowKit
set_option linter.unusedVariables false

/-- A cell's numbers fit. -/
def CelB (c : Cel) : Prop := R32 c.r ∧ R32 c.m ∧ R32 c.n ∧ c.w < 256
def LB (cs : List Cel) : Prop := ∀ i, i < cs.length → CelB (cAt cs i)
/-- The call made a row of these cells, and left all that was there. -/
def MadeC (t : TypeId) (k : IntKind) (w : World) (cs : List Cel) (e : Ending) (w' : World) : Prop := ∃ v, e = .returned v ∧ OwnC t k w.heap.size w w' v cs
set_option maxRecDepth 100000 in
set_option maxHeartbeats 1000000 in
theorem lcut_any (A : Option Addr) (n c : Nat) (cs : List Cel) (w : World) (h : Cels .i32 w A cs) (hn : n ≤ cs.length) (hc : A = none → c = 0) (hnc : n ≤ c) : Calls Tryd.prog 7 #[.slice A n c] w (MadeC 27 .i32 w (cs.take (min n 30))) := by
  obtain ⟨m, hm⟩ : ∃ m, min n 30 = m := ⟨_, rfl⟩
  have em : min (n : Int) 30 = (m : Int) := by omega
  have hm1 : m ≤ c := by omega
  have hm2 : m ≤ 30 := by omega
  have HC := hide ((h.take m).alloc (.cells #[] 27))
  have HA := hide hc
  have HL : Hid ((cs.take m).length = m) := by unfold Hid; rw [List.length_take]; omega
  have HM := hide hm
  clear h hn hc hm hnc
  go_enter Tryd.func7, Tryd.ntmps7
  go_wp2_with (at_builtin; refine stopw ?_)
  unfold Hid
  refine wpList_catC elemL rfl _ _ rfl rfl rfl (OwnC.empty w 27 .i32) HC.out HL.out HA.out (by simp; omega) (by omega) ?_
  intro v' w1 hown
  simp only [List.nil_append] at hown
  have HV := hide hown
  clear hown
  go_wp2
  go_ret
  exact ⟨_, rfl, by rw [HM.out]; exact HV.out⟩
theorem OwnC.snoc {e : TypeId} {k : IntKind} {B : Nat} {w wr : World} {v : Value} {n : Nat} {F : Nat → Cel} {c : Cel} (h : OwnC e k B w wr v (tab n F ++ [c])) (hF : F n = c) : OwnC e k B w wr v (tab (n + 1) F) := by rw [tab_snoc, hF]; exact h
theorem take_cAt (cs : List Cel) (k : Nat) (h : k < cs.length) : cs.take (k + 1) = cs.take k ++ [cAt cs k] := by
  rw [List.take_succ_eq_append_getElem h]
  congr 2
  exact Option.some.inj ((List.getElem?_eq_getElem h).symm.trans (get_cAt cs k h))
set_option maxRecDepth 100000 in
set_option maxHeartbeats 2000000 in
theorem lineof_any (A : Option Addr) (n c : Nat) (cs : List Cel) (w : World) (h : Cels .i32 w A cs) (hn : cs.length = n) (hl : n ≤ 1000000) (hb : LB cs) : Calls Tryd.prog 8 #[.slice A n c] w (MadeC 38 .i64 w cs) := by
  have HC := hide h
  have HN := hide hn
  have HLB := hide hb
  clear h hn hb
  go_enter Tryd.func8, Tryd.ntmps8
  go_wp2
  go_loopw [3, 4] (fun v i wr => ∃ k : Nat, k ≤ n ∧ i = .int .i64 k ∧ OwnC 38 .i64 w.heap.size w wr v (cs.take k)) (fun _ i _ => n - (intOf i).toNat)
  case atStart => exact ⟨0, Nat.zero_le _, rfl, OwnC.start (Nat.le_refl _)⟩
  case round =>
    obtain ⟨k, hk, rfl, hown⟩ := hrel
    have HV := hide hown
    clear hown
    by_cases hlt : k < n
    · obtain ⟨b1, o1, rfl, l1, -⟩ := HC.out.at (i := k) (by rw [HN.out]; exact hlt)
      have hcb := HLB.out k (by rw [HN.out]; exact hlt)
      have HT := hide (take_cAt cs k (by rw [HN.out]; exact hlt))
      obtain ⟨⟨r, x, y, z, ⟨f, g, b⟩⟩, hc⟩ : ∃ q, cAt cs k = q := ⟨_, rfl⟩
      rw [hc] at hcb HT
      obtain ⟨hr, hx, hy, -⟩ := hcb
      obtain ⟨u0, u1, u2, u3, u4, u5, u6, -⟩ := (HC.out.below HV.out.bel).sevenC k (by rw [HN.out]; exact hlt) hc
      clear hc
      go_wp2_with fail
      refine (lof_v r x y z f g b hr hx hy wr).mono ?_
      rintro e w1 ⟨rfl, hb1⟩
      have HV1 := hide (HV.out.later hb1)
      clear hb1 u0 u1 u2 u3 u4 u5 u6
      go_wp2_with (at_builtin; refine stopw ?_)
      unfold Hid
      refine wpList_pushC elemLC ⟨r, x, y, z, ⟨f, g, b⟩⟩ rfl _ _ rfl rfl rfl HV1.out (by rw [List.length_take]; omega) (by omega) ?_
      intro v' wn hn1
      rw [← HT.out] at hn1
      have HV' := hide hn1
      clear hn1 hr hx hy
      go_wp2
      go_roundw
      case rel => exact ⟨k + 1, by omega, by go_num, HV'.out⟩
      case measure => simp [intOf]; omega
    · go_wp2
      go_ret
      exact ⟨_, rfl, by have q := HV.out; rwa [List.take_of_length_le (by rw [HN.out]; omega)] at q⟩
set_option maxHeartbeats 1000000 in
theorem length_any (x : Int) (w : World) : Calls Tryd.prog 48 #[.int .i64 x] w fun e w' => e = .returned (.int .i64 (lenN x : Int)) ∧ w = w' := by
  by_cases h0 : x < 0
  · have H : Hid ((lenN x : Int) = 0) := by unfold Hid lenN; omega
    go_enter Tryd.func48, Tryd.ntmps48
    go_wp2
    go_ret
    exact ⟨ret_int H.out.symm, rfl⟩
  · by_cases h1 : 512 < x
    · have H : Hid ((lenN x : Int) = 512) := by unfold Hid lenN; omega
      go_enter Tryd.func48, Tryd.ntmps48
      go_wp2
      go_ret
      exact ⟨ret_int H.out.symm, rfl⟩
    · have H : Hid ((lenN x : Int) = x) := by unfold Hid lenN; omega
      go_enter Tryd.func48, Tryd.ntmps48
      go_wp2
      go_ret
      exact ⟨ret_int H.out.symm, rfl⟩
set_option maxRecDepth 100000 in
set_option maxHeartbeats 2000000 in
theorem rnew_any (x : Int) (w : World) : Calls Tryd.prog 23 #[.int .i64 x] w (MadeC 38 .i64 w (newC x)) := by
  obtain ⟨N, hN⟩ : ∃ N, lenN x = N := ⟨_, rfl⟩
  have hl : N ≤ 512 := by rw [← hN]; exact lenN_le x
  have HN := hide hN
  clear hN
  go_enter Tryd.func23, Tryd.ntmps23
  go_wp2
  go_loopw [3, 4] (fun v i wr => ∃ k : Nat, k ≤ N ∧ i = .int .i64 k ∧ OwnC 38 .i64 w.heap.size w wr v (tab k (fun _ => blankC zeroP))) (fun _ i _ => N - (intOf i).toNat)
  case atStart => exact ⟨0, Nat.zero_le _, rfl, OwnC.start (Nat.le_refl _)⟩
  case round =>
    obtain ⟨k, hk, rfl, hown⟩ := hrel
    have HV := hide hown
    clear hown
    go_wp2_with fail
    refine (length_any x wr).mono ?_
    rintro e w1 ⟨rfl, rfl⟩
    rw [HN.out]
    by_cases hlt : k < N
    · go_wp2_with fail
      refine (rblank_v 0 0 0 wr).mono ?_
      rintro e w1 ⟨rfl, hb1⟩
      have HV1 := hide (HV.out.later hb1)
      clear hb1
      go_wp2_with (at_builtin; refine stopw ?_)
      unfold Hid
      refine wpList_pushC elemLC (blankC zeroP) rfl _ _ rfl rfl rfl HV1.out (by rw [tab_len]; omega) (by omega) ?_
      intro v' wn hn1
      have HV' : Hid (OwnC 38 .i64 w.heap.size w wn v' (tab (k + 1) (fun _ => blankC zeroP))) := by unfold Hid; rw [tab_snoc]; exact hn1
      clear hn1
      go_wp2
      go_roundw
      case rel => exact ⟨k + 1, by omega, by go_num, HV'.out⟩
      case measure => simp [intOf]; omega
    · obtain rfl : k = N := by omega
      go_wp2
      go_ret
      exact ⟨_, rfl, by unfold newC; rw [HN.out]; exact HV.out⟩
end Go.Proofs.YtdeoeihbmdgipaaDoor
