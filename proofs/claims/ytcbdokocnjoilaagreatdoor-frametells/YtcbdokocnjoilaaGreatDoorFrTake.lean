/-
  Contract: the frame that bytes tell behind the magic (the program's take).
-/
import Derived.Test.YtcbdokocnjoilaaGreatDoorFrBase
import Derived.Test.YtcbdokocnjoilaaGreatDoorH19
import Derived.Test.YtcbdokocnjoilaaGreatDoorFmShift
import Derived.Test.YtcbdokocnjoilaaGreatDoorH13
import Derived.Deep.DeepCutAuto
import Derived.Deep.CutRange
namespace Go.Proofs.YtcbdokocnjoilaaGreatDoor
set_option maxRecDepth 100000
open Go.ChangeShapes Go.WideShapes Go.ChangeAt Go.RowKit
set_option linter.unusedVariables false

/-- The reader's state behind so many numbers; the number there. -/
def nst (xs : List Int) : Nat → Nat × Int
  | 0 => (0, 0)
  | k + 1 => (numD xs (nst xs k)).1
def nvl (xs : List Int) (k : Nat) : Int := (numD xs (nst xs k)).2
theorem body_nst (xs : List Int) : bodyFm xs (0, 0) = ((takeDe xs (nst xs 4)).1, ⟨nvl xs 0, nvl xs 1, nvl xs 2, nvl xs 3, (takeDe xs (nst xs 4)).2⟩) := rfl
/-- A head's block, so many numbers laid. -/
def hdl (xs : List Int) : Nat → List Value
  | 0 => [.int .u64 0, .int .u64 0, .int .u64 0, .int .u64 0]
  | 1 => [.int .u64 (nvl xs 0), .int .u64 0, .int .u64 0, .int .u64 0]
  | 2 => [.int .u64 (nvl xs 0), .int .u64 (nvl xs 1), .int .u64 0, .int .u64 0]
  | 3 => [.int .u64 (nvl xs 0), .int .u64 (nvl xs 1), .int .u64 (nvl xs 2), .int .u64 0]
  | _ => [.int .u64 (nvl xs 0), .int .u64 (nvl xs 1), .int .u64 (nvl xs 2), .int .u64 (nvl xs 3)]
theorem hdl_set (xs : List Int) (k : Nat) (hk : k < 4) : (hdl xs k).set k (.int .u64 (nvl xs k)) = hdl xs (k + 1) := by
  match k, hk with
  | 0, _ => rfl
  | 1, _ => rfl
  | 2, _ => rfl
  | 3, _ => rfl
theorem hdl_get (xs : List Int) (k : Nat) (hk : k < 4) : (hdl xs k)[k]? = some (.int .u64 0) := by
  match k, hk with
  | 0, _ => rfl
  | 1, _ => rfl
  | 2, _ => rfl
  | 3, _ => rfl
theorem only_put9 (w : World) (q : Nat) (x0 x1 x2 x3 x4 x5 x6 x7 x8 : Value) : Only q w (set9 w q x0 x1 x2 x3 x4 x5 x6 x7 x8) :=
  ((((((((Only.put 0 x0).trans (Only.put 1 x1)).trans (Only.put 2 x2)).trans (Only.put 3 x3)).trans (Only.put 4 x4)).trans (Only.put 5 x5)).trans (Only.put 6 x6)).trans (Only.put 7 x7)).trans (Only.put 8 x8)
/-- What take leaves. -/
def TakeFm (w : World) (xs : List Int) (x : (Nat × Int) × Fm) (e : Ending) (w' : World) : Prop :=
  ∃ A c, e = .returned (.tuple #[.agg #[.int .u64 x.2.num, .int .u64 x.2.base, .int .u64 x.2.echo, .int .u64 x.2.stamp, .int .i64 x.2.d.rows, .int .i64 x.2.d.cols, .int .i64 x.2.d.row, .int .i64 x.2.d.col, .slice A x.2.d.ss.length c], .int .i64 (dVal xs x.1.1 x.1.2)]) ∧ DfOk 0 68 105 .i32 w' x.2.d A c ∧ Below w.heap.size w w'
set_option maxHeartbeats 8000000 in
theorem frtake_s (A : Option Addr) (n c : Nat) (xs : List Int) (w : World) (h : Ints .u8 w A xs) (hn : xs.length = n) (hc : A = none → c = 0) (hlen : n ≤ 1000000) (hb : Byte xs) (hS : Spans w) :
    Calls Tryz.prog 26 #[.slice A n c] w (TakeFm w xs (bodyFm xs (0, 0))) := by
  rw [body_nst]
  obtain ⟨W0, hW0⟩ : ∃ W0, w.alloc (.cells #[.int .u64 0, .int .u64 0, .int .u64 0, .int .u64 0, .int .i64 0, .int .i64 0, .int .i64 0, .int .i64 0, .slice none 0 0] 27) = W0 := ⟨_, rfl⟩
  have hb0 : Below w.heap.size w W0 := by rw [← hW0]; exact new1W _ _
  have HZ0 : Hid (Whole W0 w.heap.size 27 [.int .u64 0, .int .u64 0, .int .u64 0, .int .u64 0, .int .i64 0, .int .i64 0, .int .i64 0, .int .i64 0, .slice none 0 0]) := by unfold Hid; rw [← hW0]; exact Whole.new w 27 [.int .u64 0, .int .u64 0, .int .u64 0, .int .u64 0, .int .i64 0, .int .i64 0, .int .i64 0, .int .i64 0, .slice none 0 0]
  have KEY := hide (new_s A n c xs W0 (h.below hb0) hn hc hlen)
  have HB0 := hide hb0
  have HS := hide hS
  have HN := hide hn
  have HW0 := hide hW0
  obtain ⟨⟨⟨tT, tE⟩, D⟩, hT⟩ : ∃ X, takeDe xs (nst xs 4) = X := ⟨_, rfl⟩
  have HT := hide hT
  rw [hT]
  obtain ⟨nd, hnd⟩ : ∃ nd, D.ss.length = nd := ⟨_, rfl⟩
  have HND := hide hnd
  unfold TakeFm
  simp only
  rw [hnd]
  obtain ⟨dv, hdv⟩ : ∃ dv, dVal xs tT tE = dv := ⟨_, rfl⟩
  have HDV := hide hdv
  rw [hdv]
  clear h hn hS hW0 hb0 hT hnd hdv
  go_enter Tryz.func26, Tryz.ntmps26
  go_wp2_with fail
  rw [HW0.out]
  refine KEY.out.mono ?_
  rintro e w1 ⟨g, rfl, hr1, hg1, hb1⟩
  have hzl := HZ0.out.lt
  have HG : Hid (w.heap.size ≤ g) := by unfold Hid; omega
  have HZG : Hid (w.heap.size ≠ g) := by unfold Hid; omega
  obtain ⟨w2, hw2⟩ : ∃ w2, w1.alloc (.cells #[.int .u64 0, .int .u64 0, .int .u64 0, .int .u64 0] 58) = w2 := ⟨_, rfl⟩
  have hb2 : Below w1.heap.size w1 w2 := by rw [← hw2]; exact new1W _ _
  have hh2 : Whole w2 w1.heap.size 58 (hdl xs 0) := by rw [← hw2]; exact Whole.new w1 58 [.int .u64 0, .int .u64 0, .int .u64 0, .int .u64 0]
  have HZ2 := hide ((HZ0.out.later hb1).later hb2)
  have HB2 := hide (HB0.out.trans ((hb1.trans (hb2.mono hb1.size)).mono HB0.out.size))
  have HR2 := hide (hr1.later hb2)
  have hgl := hr1.lt
  obtain ⟨hq, hhq⟩ : ∃ q, w1.heap.size = q := ⟨_, rfl⟩
  have HQW : Hid (w.heap.size < hq) := by unfold Hid; omega
  have HHG : Hid (hq ≠ g) := by unfold Hid; omega
  have HW2 := hide hw2
  rw [hhq] at hh2
  have HH2 := hide hh2
  have HQE := hide hhq
  clear hr1 hg1 hb1 hw2 hb2 hh2 hgl hhq hzl
  go_upto_region 3 with fail
  rw [HW2.out, HQE.out]
  go_wp2
  go_loopw [6, 10] (fun _ i wr => ∃ k : Nat, k ≤ 4 ∧ i = .int .i64 k ∧ Hid (RdS wr g xs (nst xs k)) ∧ Hid (Whole wr hq 58 (hdl xs k)) ∧ Hid (Whole wr w.heap.size 27 [.int .u64 0, .int .u64 0, .int .u64 0, .int .u64 0, .int .i64 0, .int .i64 0, .int .i64 0, .int .i64 0, .slice none 0 0]) ∧ Hid (Below w.heap.size w wr)) (fun _ i _ => 4 - (intOf i).toNat)
  case atStart => exact ⟨0, Nat.zero_le _, rfl, HR2, HH2, HZ2, HB2⟩
  case round =>
    obtain ⟨k, hk, rfl, HR, HH, HZ, HB⟩ := hrel
    by_cases hlt : k < 4
    · have hset := hdl_set xs k hlt
      have hget := hdl_get xs k hlt
      obtain ⟨V, hV⟩ : ∃ V, nvl xs k = V := ⟨_, rfl⟩
      have hnum : numD xs (nst xs k) = (nst xs (k + 1), V) := by rw [← hV]; rfl
      rw [hV] at hset
      clear hV
      go_wp2_with fail
      refine (number_s g xs (nst xs k) wr HR.out hb (by rw [HN.out]; exact hlen)).mono ?_
      rw [hnum]
      rintro e w3 ⟨rfl, ho, hr⟩
      simp only at hr
      simp only
      replace HB := hide (only_fresh HB.out ho HG.out)
      replace HH := hide (HH.out.far ho HHG.out)
      replace HZ := hide (HZ.out.far ho HZG.out)
      replace HR := hide hr
      clear ho hr
      have y0 : w3.cell? ⟨hq, k, none⟩ = some (.int .u64 0) := by rw [HH.out.cell]; exact hget
      have yz := HH.out.frozen k
      have yl := HH.out.lt
      have HH4 : Hid (Whole (w3.setCell ⟨hq, k, none⟩ (.int .u64 V)) hq 58 (hdl xs (k + 1))) := by unfold Hid; rw [← hset]; exact HH.out.put k _
      have HR4 : Hid (RdS (w3.setCell ⟨hq, k, none⟩ (.int .u64 V)) g xs (nst xs (k + 1))) := HR.out.far (Only.put k _) HH.out (by decide) (Ne.symm HHG.out)
      have HZ4 := hide (HZ.out.far (Only.put (g := hq) k (.int .u64 V)) (Nat.ne_of_lt HQW.out))
      have HB4 := hide (HB.out.setCell (p := ⟨hq, k, none⟩) (Nat.le_of_lt HQW.out) (.int .u64 V))
      go_wp2
      go_roundw
      case rel => exact ⟨k + 1, by omega, by go_num, HR4, HH4, HZ4, HB4⟩
      case measure => simp [intOf]; omega
    · obtain rfl : k = 4 := by omega
      have hbd : Below wr.heap.size wr wr.drew := (Below.refl _ _).drewN 1
      replace HR := hide (HR.out.later hbd)
      have HH' : Hid (Whole wr hq 58 [.int .u64 (nvl xs 0), .int .u64 (nvl xs 1), .int .u64 (nvl xs 2), .int .u64 (nvl xs 3)]) := HH
      replace HH := hide (HH'.out.later hbd)
      replace HZ := hide (HZ.out.later hbd)
      replace HB := hide (HB.out.trans (hbd.mono HB.out.size))
      clear hbd HH'
      go_upto_region 8 with fail
      go_cut [7] from 19 to 22 (fun p wx => ∃ P A2 c2, p = .pointer (some ⟨P, 0, none⟩) ∧ Whole wx P 27 [.int .u64 (nvl xs 0), .int .u64 (nvl xs 1), .int .u64 (nvl xs 2), .int .u64 (nvl xs 3), .int .i64 D.rows, .int .i64 D.cols, .int .i64 D.row, .int .i64 D.col, .slice A2 nd c2] ∧ DfOk 0 68 105 .i32 wx D A2 c2 ∧ RdS wx g xs (tT, tE) ∧ Whole wx w.heap.size 27 [.int .u64 0, .int .u64 0, .int .u64 0, .int .u64 0, .int .i64 0, .int .i64 0, .int .i64 0, .int .i64 0, .slice none 0 0] ∧ Below w.heap.size w wx ∧ Hid (w.heap.size < P))
      case first =>
        refine rgT (fun w' => Whole w' hq 58 [.int .u64 (nvl xs 0), .int .u64 (nvl xs 1), .int .u64 (nvl xs 2), .int .u64 (nvl xs 3)]) (.take 1 (.take 0 (.two 2 (.two 3 (.alone 4 (.alone 5 .done)) 4 (.alone 3 (.alone 5 .done))) 4 (.alone 2 (.alone 3 (.alone 5 .done)))))) HH.out ?_
        generalize wr.drew = V0 at *
        refine stT (h := ?_)
        refine stT (hy := fun w hS => by obtain ⟨x0, x1, x2, x3, -⟩ := cells4 hS; go_simp <;> with_reducible rfl) (h := ?_)
        refine tree_two (by simp only [List.getElem?_toArray, List.getElem?_cons_zero, List.getElem?_cons_succ]; rfl) (by simp only [List.getElem?_toArray, List.getElem?_cons_zero, List.getElem?_cons_succ]; rfl) ?_ ?_
        · intro K hK
          go_wp2_with fail
          refine (detake_s g xs (nst xs 4) V0 HR.out hb (by rw [HN.out]; exact hlen) (HS.out.below HB.out)).mono ?_
          rw [HT.out]
          rintro e K1 ⟨A2, c2, rfl, hd, ho, hr⟩
          simp only at hd hr
          simp only
          rw [HND.out]
          replace HB := hide (only_fresh HB.out ho HG.out)
          replace HH := hide (HH.out.far ho HHG.out)
          replace HZ := hide (HZ.out.far ho HZG.out)
          have HD := hide hd
          replace HR := hide hr
          clear hd ho hr
          go_wp2
          refine hK.out _ _ HH.out ?_
          clear hK K
          refine tree_two (by simp only [List.getElem?_toArray, List.getElem?_cons_zero, List.getElem?_cons_succ]; rfl) (by simp only [List.getElem?_toArray, List.getElem?_cons_zero, List.getElem?_cons_succ]; rfl) ?_ ?_
          · intro K hK
            go_wp2_with fail
            refine (frwith_any (nvl xs 0) (nvl xs 1) (nvl xs 2) (nvl xs 3) D A2 nd c2 K1).mono ?_
            rintro e K2 ⟨rfl, hb⟩
            replace HR := hide (HR.out.later hb)
            replace HH := hide (HH.out.later hb)
            replace HZ := hide (HZ.out.later hb)
            replace HD := hide (HD.out.below hb)
            replace HB := hide (HB.out.trans (hb.mono HB.out.size))
            clear hb
            go_wp2
            refine hK.out _ _ HH.out ?_
            clear hK K
            refine alT fun K hK => ?_
            go_wp2
            refine hK.out _ _ (HH.out.alloc _) ?_
            clear hK K
            obtain ⟨K3, hnw⟩ : ∃ W, K2.alloc (.cells #[.int .u64 0, .int .u64 0, .int .u64 0, .int .u64 0, .int .i64 0, .int .i64 0, .int .i64 0, .int .i64 0, .slice none 0 0] 27) = W := ⟨_, rfl⟩
            have hb : Below K2.heap.size K2 K3 := by rw [← hnw]; exact new1W _ _
            have HP : Hid (Whole K3 K2.heap.size 27 [.int .u64 0, .int .u64 0, .int .u64 0, .int .u64 0, .int .i64 0, .int .i64 0, .int .i64 0, .int .i64 0, .slice none 0 0]) := by unfold Hid; rw [← hnw]; exact Whole.new K2 27 [.int .u64 0, .int .u64 0, .int .u64 0, .int .u64 0, .int .i64 0, .int .i64 0, .int .i64 0, .int .i64 0, .slice none 0 0]
            rw [hnw]
            have hgl := HR.out.lt
            have hzl := HZ.out.lt
            have hhl := HH.out.lt
            obtain ⟨P, hP⟩ : ∃ P, K2.heap.size = P := ⟨_, rfl⟩
            rw [hP] at HP ⊢
            have HPG : Hid (P ≠ g) := by unfold Hid; omega
            have HPZ : Hid (w.heap.size < P) := by unfold Hid; omega
            have HPH : Hid (hq ≠ P) := by unfold Hid; omega
            clear hP hnw hgl hzl hhl
            replace HR := hide (HR.out.later hb)
            replace HH := hide (HH.out.later hb)
            replace HZ := hide (HZ.out.later hb)
            replace HD := hide (HD.out.below hb)
            replace HB := hide (HB.out.trans (hb.mono HB.out.size))
            clear hb
            refine alT fun K hK => ?_
            obtain ⟨p0, p1, p2, p3, p4, p5, p6, p7, p8, lp⟩ := cells9 HP.out
            have pz := HP.out.frozen
            go_wp2
            refine hK.out _ _ (HH.out.same (heap_put9 K3 P (.int .u64 (nvl xs 0)) (.int .u64 (nvl xs 1)) (.int .u64 (nvl xs 2)) (.int .u64 (nvl xs 3)) (.int .i64 D.rows) (.int .i64 D.cols) (.int .i64 D.row) (.int .i64 D.col) (.slice A2 nd c2) hq HPH.out)) ?_
            clear hK K
            refine tree_done ?_
            go_wp2
            go_meet
            case rel => exact ⟨P, A2, c2, rfl, put9 HP.out (.int .u64 (nvl xs 0)) (.int .u64 (nvl xs 1)) (.int .u64 (nvl xs 2)) (.int .u64 (nvl xs 3)) (.int .i64 D.rows) (.int .i64 D.cols) (.int .i64 D.row) (.int .i64 D.col) (.slice A2 nd c2), dfok_put9 HD.out HP.out (by decide) (by decide) (.int .u64 (nvl xs 0)) (.int .u64 (nvl xs 1)) (.int .u64 (nvl xs 2)) (.int .u64 (nvl xs 3)) (.int .i64 D.rows) (.int .i64 D.cols) (.int .i64 D.row) (.int .i64 D.col) (.slice A2 nd c2), HR.out.far (only_put9 K3 P (.int .u64 (nvl xs 0)) (.int .u64 (nvl xs 1)) (.int .u64 (nvl xs 2)) (.int .u64 (nvl xs 3)) (.int .i64 D.rows) (.int .i64 D.cols) (.int .i64 D.row) (.int .i64 D.col) (.slice A2 nd c2)) HP.out (by decide) (Ne.symm HPG.out), HZ.out.same (heap_put9 K3 P (.int .u64 (nvl xs 0)) (.int .u64 (nvl xs 1)) (.int .u64 (nvl xs 2)) (.int .u64 (nvl xs 3)) (.int .i64 D.rows) (.int .i64 D.cols) (.int .i64 D.row) (.int .i64 D.col) (.slice A2 nd c2) w.heap.size (Nat.ne_of_lt HPZ.out)), below_put9 HB.out (Nat.le_of_lt HPZ.out) (.int .u64 (nvl xs 0)) (.int .u64 (nvl xs 1)) (.int .u64 (nvl xs 2)) (.int .u64 (nvl xs 3)) (.int .i64 D.rows) (.int .i64 D.cols) (.int .i64 D.row) (.int .i64 D.col) (.slice A2 nd c2), HPZ⟩
          · intro K hK
            go_wp2
            refine hK.out _ _ (HH.out.alloc _) ?_
            clear hK K
            obtain ⟨K2, hnw⟩ : ∃ W, K1.alloc (.cells #[.int .u64 0, .int .u64 0, .int .u64 0, .int .u64 0, .int .i64 0, .int .i64 0, .int .i64 0, .int .i64 0, .slice none 0 0] 27) = W := ⟨_, rfl⟩
            have hb : Below K1.heap.size K1 K2 := by rw [← hnw]; exact new1W _ _
            have HP : Hid (Whole K2 K1.heap.size 27 [.int .u64 0, .int .u64 0, .int .u64 0, .int .u64 0, .int .i64 0, .int .i64 0, .int .i64 0, .int .i64 0, .slice none 0 0]) := by unfold Hid; rw [← hnw]; exact Whole.new K1 27 [.int .u64 0, .int .u64 0, .int .u64 0, .int .u64 0, .int .i64 0, .int .i64 0, .int .i64 0, .int .i64 0, .slice none 0 0]
            rw [hnw]
            have hgl := HR.out.lt
            have hzl := HZ.out.lt
            have hhl := HH.out.lt
            obtain ⟨P, hP⟩ : ∃ P, K1.heap.size = P := ⟨_, rfl⟩
            rw [hP] at HP ⊢
            have HPG : Hid (P ≠ g) := by unfold Hid; omega
            have HPZ : Hid (w.heap.size < P) := by unfold Hid; omega
            have HPH : Hid (hq ≠ P) := by unfold Hid; omega
            clear hP hnw hgl hzl hhl
            replace HR := hide (HR.out.later hb)
            replace HH := hide (HH.out.later hb)
            replace HZ := hide (HZ.out.later hb)
            replace HD := hide (HD.out.below hb)
            replace HB := hide (HB.out.trans (hb.mono HB.out.size))
            clear hb
            refine alT fun K hK => ?_
            go_wp2_with fail
            refine (frwith_any (nvl xs 0) (nvl xs 1) (nvl xs 2) (nvl xs 3) D A2 nd c2 K2).mono ?_
            rintro e K3 ⟨rfl, hb⟩
            replace HR := hide (HR.out.later hb)
            replace HH := hide (HH.out.later hb)
            replace HZ := hide (HZ.out.later hb)
            replace HD := hide (HD.out.below hb)
            replace HP := hide (HP.out.later hb)
            replace HB := hide (HB.out.trans (hb.mono HB.out.size))
            clear hb
            go_wp2
            refine hK.out _ _ HH.out ?_
            clear hK K
            refine alT fun K hK => ?_
            obtain ⟨p0, p1, p2, p3, p4, p5, p6, p7, p8, lp⟩ := cells9 HP.out
            have pz := HP.out.frozen
            go_wp2
            refine hK.out _ _ (HH.out.same (heap_put9 K3 P (.int .u64 (nvl xs 0)) (.int .u64 (nvl xs 1)) (.int .u64 (nvl xs 2)) (.int .u64 (nvl xs 3)) (.int .i64 D.rows) (.int .i64 D.cols) (.int .i64 D.row) (.int .i64 D.col) (.slice A2 nd c2) hq HPH.out)) ?_
            clear hK K
            refine tree_done ?_
            go_wp2
            go_meet
            case rel => exact ⟨P, A2, c2, rfl, put9 HP.out (.int .u64 (nvl xs 0)) (.int .u64 (nvl xs 1)) (.int .u64 (nvl xs 2)) (.int .u64 (nvl xs 3)) (.int .i64 D.rows) (.int .i64 D.cols) (.int .i64 D.row) (.int .i64 D.col) (.slice A2 nd c2), dfok_put9 HD.out HP.out (by decide) (by decide) (.int .u64 (nvl xs 0)) (.int .u64 (nvl xs 1)) (.int .u64 (nvl xs 2)) (.int .u64 (nvl xs 3)) (.int .i64 D.rows) (.int .i64 D.cols) (.int .i64 D.row) (.int .i64 D.col) (.slice A2 nd c2), HR.out.far (only_put9 K3 P (.int .u64 (nvl xs 0)) (.int .u64 (nvl xs 1)) (.int .u64 (nvl xs 2)) (.int .u64 (nvl xs 3)) (.int .i64 D.rows) (.int .i64 D.cols) (.int .i64 D.row) (.int .i64 D.col) (.slice A2 nd c2)) HP.out (by decide) (Ne.symm HPG.out), HZ.out.same (heap_put9 K3 P (.int .u64 (nvl xs 0)) (.int .u64 (nvl xs 1)) (.int .u64 (nvl xs 2)) (.int .u64 (nvl xs 3)) (.int .i64 D.rows) (.int .i64 D.cols) (.int .i64 D.row) (.int .i64 D.col) (.slice A2 nd c2) w.heap.size (Nat.ne_of_lt HPZ.out)), below_put9 HB.out (Nat.le_of_lt HPZ.out) (.int .u64 (nvl xs 0)) (.int .u64 (nvl xs 1)) (.int .u64 (nvl xs 2)) (.int .u64 (nvl xs 3)) (.int .i64 D.rows) (.int .i64 D.cols) (.int .i64 D.row) (.int .i64 D.col) (.slice A2 nd c2), HPZ⟩
        · intro K hK
          go_wp2
          refine hK.out _ _ (HH.out.alloc _) ?_
          clear hK K
          obtain ⟨K1, hnw⟩ : ∃ W, V0.alloc (.cells #[.int .u64 0, .int .u64 0, .int .u64 0, .int .u64 0, .int .i64 0, .int .i64 0, .int .i64 0, .int .i64 0, .slice none 0 0] 27) = W := ⟨_, rfl⟩
          have hb : Below V0.heap.size V0 K1 := by rw [← hnw]; exact new1W _ _
          have HP : Hid (Whole K1 V0.heap.size 27 [.int .u64 0, .int .u64 0, .int .u64 0, .int .u64 0, .int .i64 0, .int .i64 0, .int .i64 0, .int .i64 0, .slice none 0 0]) := by unfold Hid; rw [← hnw]; exact Whole.new V0 27 [.int .u64 0, .int .u64 0, .int .u64 0, .int .u64 0, .int .i64 0, .int .i64 0, .int .i64 0, .int .i64 0, .slice none 0 0]
          rw [hnw]
          have hgl := HR.out.lt
          have hzl := HZ.out.lt
          have hhl := HH.out.lt
          obtain ⟨P, hP⟩ : ∃ P, V0.heap.size = P := ⟨_, rfl⟩
          rw [hP] at HP ⊢
          have HPG : Hid (P ≠ g) := by unfold Hid; omega
          have HPZ : Hid (w.heap.size < P) := by unfold Hid; omega
          have HPH : Hid (hq ≠ P) := by unfold Hid; omega
          clear hP hnw hgl hzl hhl
          replace HR := hide (HR.out.later hb)
          replace HH := hide (HH.out.later hb)
          replace HZ := hide (HZ.out.later hb)
          replace HB := hide (HB.out.trans (hb.mono HB.out.size))
          clear hb
          refine alT fun K hK => ?_
          go_wp2_with fail
          refine (detake_s g xs (nst xs 4) K1 HR.out hb (by rw [HN.out]; exact hlen) (HS.out.below HB.out)).mono ?_
          rw [HT.out]
          rintro e K2 ⟨A2, c2, rfl, hd, ho, hr⟩
          simp only at hd hr
          simp only
          rw [HND.out]
          replace HB := hide (only_fresh HB.out ho HG.out)
          replace HH := hide (HH.out.far ho HHG.out)
          replace HZ := hide (HZ.out.far ho HZG.out)
          replace HP := hide (HP.out.far ho HPG.out)
          have HD := hide hd
          replace HR := hide hr
          clear hd ho hr
          go_wp2
          refine hK.out _ _ HH.out ?_
          clear hK K
          refine alT fun K hK => ?_
          go_wp2_with fail
          refine (frwith_any (nvl xs 0) (nvl xs 1) (nvl xs 2) (nvl xs 3) D A2 nd c2 K2).mono ?_
          rintro e K3 ⟨rfl, hb⟩
          replace HR := hide (HR.out.later hb)
          replace HH := hide (HH.out.later hb)
          replace HZ := hide (HZ.out.later hb)
          replace HP := hide (HP.out.later hb)
          replace HD := hide (HD.out.below hb)
          replace HB := hide (HB.out.trans (hb.mono HB.out.size))
          clear hb
          go_wp2
          refine hK.out _ _ HH.out ?_
          clear hK K
          refine alT fun K hK => ?_
          obtain ⟨p0, p1, p2, p3, p4, p5, p6, p7, p8, lp⟩ := cells9 HP.out
          have pz := HP.out.frozen
          go_wp2
          refine hK.out _ _ (HH.out.same (heap_put9 K3 P (.int .u64 (nvl xs 0)) (.int .u64 (nvl xs 1)) (.int .u64 (nvl xs 2)) (.int .u64 (nvl xs 3)) (.int .i64 D.rows) (.int .i64 D.cols) (.int .i64 D.row) (.int .i64 D.col) (.slice A2 nd c2) hq HPH.out)) ?_
          clear hK K
          refine tree_done ?_
          go_wp2
          go_meet
          case rel => exact ⟨P, A2, c2, rfl, put9 HP.out (.int .u64 (nvl xs 0)) (.int .u64 (nvl xs 1)) (.int .u64 (nvl xs 2)) (.int .u64 (nvl xs 3)) (.int .i64 D.rows) (.int .i64 D.cols) (.int .i64 D.row) (.int .i64 D.col) (.slice A2 nd c2), dfok_put9 HD.out HP.out (by decide) (by decide) (.int .u64 (nvl xs 0)) (.int .u64 (nvl xs 1)) (.int .u64 (nvl xs 2)) (.int .u64 (nvl xs 3)) (.int .i64 D.rows) (.int .i64 D.cols) (.int .i64 D.row) (.int .i64 D.col) (.slice A2 nd c2), HR.out.far (only_put9 K3 P (.int .u64 (nvl xs 0)) (.int .u64 (nvl xs 1)) (.int .u64 (nvl xs 2)) (.int .u64 (nvl xs 3)) (.int .i64 D.rows) (.int .i64 D.cols) (.int .i64 D.row) (.int .i64 D.col) (.slice A2 nd c2)) HP.out (by decide) (Ne.symm HPG.out), HZ.out.same (heap_put9 K3 P (.int .u64 (nvl xs 0)) (.int .u64 (nvl xs 1)) (.int .u64 (nvl xs 2)) (.int .u64 (nvl xs 3)) (.int .i64 D.rows) (.int .i64 D.cols) (.int .i64 D.row) (.int .i64 D.col) (.slice A2 nd c2) w.heap.size (Nat.ne_of_lt HPZ.out)), below_put9 HB.out (Nat.le_of_lt HPZ.out) (.int .u64 (nvl xs 0)) (.int .u64 (nvl xs 1)) (.int .u64 (nvl xs 2)) (.int .u64 (nvl xs 3)) (.int .i64 D.rows) (.int .i64 D.cols) (.int .i64 D.row) (.int .i64 D.col) (.slice A2 nd c2), HPZ⟩
      case rest =>
        obtain ⟨P, A2, c2, rfl, hp, hd, hr, hz, hbw, HPZ⟩ := hcut
        clear HR HH HZ HB
        have hbd : Below wc.heap.size wc wc.drew := (Below.refl _ _).drewN 1
        have HP := hide (hp.later hbd)
        have HD := hide (hd.below hbd)
        have HR := hide (hr.later hbd)
        have HZ := hide (hz.later hbd)
        have HB := hide (hbw.trans (hbd.mono hbw.size))
        clear hp hd hr hz hbw hbd
        go_upto_region 9 with fail
        refine rgL (fun w' => Whole w' P 27 [.int .u64 (nvl xs 0), .int .u64 (nvl xs 1), .int .u64 (nvl xs 2), .int .u64 (nvl xs 3), .int .i64 D.rows, .int .i64 D.cols, .int .i64 D.row, .int .i64 D.col, .slice A2 nd c2]) 3 [(0, 1), (0, 0), (1, 2), (3, 3), (3, 4)] HP.out ?_
        generalize wc.drew = V1 at *
        refine stL (h := ?_)
        refine stL (hy := fun w hS => by obtain ⟨x0, x1, x2, x3, x4, x5, x6, x7, x8, -⟩ := cells9 hS; go_simp <;> with_reducible rfl) (h := ?_)
        refine alL fun K hK => ?_
        go_wp2_with fail
        refine (done_s g xs (tT, tE) V1 HR.out).mono ?_
        simp only
        rw [HDV.out]
        rintro e wz ⟨rfl, rfl⟩
        go_wp2
        refine hK.out _ _ HP.out ?_
        clear hK K
        obtain ⟨z0, z1, z2, z3, z4, z5, z6, z7, z8, lz⟩ := cells9 HZ.out
        have zz := HZ.out.frozen
        refine laL fun K hK => ?_
        go_wp2
        refine hK.out _ _ ?_
        clear hK K
        refine laL fun K hK => ?_
        go_wp2
        refine hK.out _ _ ?_
        clear hK K
        refine chainL_nil ?_
        go_wp2
        refine ret92 Tryz.results26 (.inl rfl) rfl rfl rfl (put9 HZ.out (.int .u64 (nvl xs 0)) (.int .u64 (nvl xs 1)) (.int .u64 (nvl xs 2)) (.int .u64 (nvl xs 3)) (.int .i64 D.rows) (.int .i64 D.cols) (.int .i64 D.row) (.int .i64 D.col) (.slice A2 nd c2)) ?_
        exact ⟨A2, c2, rfl, dfok_put9 HD.out HZ.out (by decide) (by decide) (.int .u64 (nvl xs 0)) (.int .u64 (nvl xs 1)) (.int .u64 (nvl xs 2)) (.int .u64 (nvl xs 3)) (.int .i64 D.rows) (.int .i64 D.cols) (.int .i64 D.row) (.int .i64 D.col) (.slice A2 nd c2), below_put9 HB.out (Nat.le_refl _) (.int .u64 (nvl xs 0)) (.int .u64 (nvl xs 1)) (.int .u64 (nvl xs 2)) (.int .u64 (nvl xs 3)) (.int .i64 D.rows) (.int .i64 D.cols) (.int .i64 D.row) (.int .i64 D.col) (.slice A2 nd c2)⟩
end Go.Proofs.YtcbdokocnjoilaaGreatDoor
