/-
  Contracts: clusters, by the program.
-/
import Derived.Test.YtmggkdimjdbmoaaDoorWTot
import Derived.Test.YtmggkdimjdbmoaaDoorRws
import Derived.Deep.LoopGhost
import Derived.Scope
import Derived.Lib.SliceRun
import Derived.WalkMore
namespace Go.Proofs.YtmggkdimjdbmoaaDoor
open Go.ChangeShapes Go.WideShapes Go.ChangeAt Go.RowKit
set_option linter.unusedVariables false

theorem info50 : (Tryd.prog.info? 50).map (fun i => (i.zero, i.size, i.bytes)) = some (some (.slice none 0 0), 1, 24) := by kernel_rfl
theorem elem56 : ElemR Tryd.prog 56 50 := ⟨Tryd.underlying56, info50⟩
def mk (x : Int) : Bool := wOf x == 0
theorem clus_skip (zs : List Int) (i : Nat) (r : Int) (hi : i < zs.length) (hr : zs.getD i 0 = r) (h : wOf r < 1) : clus (zs.drop i) = clus (zs.drop (i + 1)) := by
  rw [drop_at zs i r hi hr]; show (if wOf r < 1 then _ else _) = _; rw [if_pos h]
theorem clus_take (zs : List Int) (i : Nat) (r : Int) (hi : i < zs.length) (hr : zs.getD i 0 = r) (h : ¬ wOf r < 1) : clus (zs.drop i) = (r :: (zs.drop (i + 1)).takeWhile mk) :: clus (zs.drop (i + 1)) := by
  rw [drop_at zs i r hi hr]; show (if wOf r < 1 then _ else _) = _; rw [if_neg h]; rfl
theorem tw_end (zs : List Int) (j : Nat) (h : zs.length ≤ j) : (zs.drop j).takeWhile mk = [] := by rw [List.drop_eq_nil_of_le h]; rfl
theorem tw_stop (zs : List Int) (j : Nat) (r : Int) (hj : j < zs.length) (hr : zs.getD j 0 = r) (h : mk r = false) : (zs.drop j).takeWhile mk = [] := by
  rw [drop_at zs j r hj hr, List.takeWhile_cons, if_neg (by rw [h]; simp)]
theorem tw_step (zs : List Int) (j : Nat) (r : Int) (hj : j < zs.length) (hr : zs.getD j 0 = r) (h : mk r = true) : (zs.drop j).takeWhile mk = r :: (zs.drop (j + 1)).takeWhile mk := by
  rw [drop_at zs j r hj hr, List.takeWhile_cons, if_pos h]
theorem clus_marks (l : List Int) (h : l.takeWhile mk = l) : clus l = [] := by
  induction l with
  | nil => rfl
  | cons r l ih =>
    rw [List.takeWhile_cons] at h
    by_cases hm : mk r = true
    · rw [if_pos hm] at h
      have h2 : wOf r = 0 := by simpa [mk] using hm
      have := ih (List.cons.inj h).2
      show (if wOf r < 1 then _ else _) = _
      rw [if_pos (by omega)]; exact this
    · rw [if_neg hm] at h; cases h
theorem take_drop_snoc (zs : List Int) (i q : Nat) (r : Int) (h : i + q < zs.length) (hr : zs.getD (i + q) 0 = r) : (zs.drop i).take (q + 1) = (zs.drop i).take q ++ [r] := by
  refine take_snoc (zs.drop i) q r (by rw [List.length_drop]; omega) ?_
  rw [← hr]; simp [List.getElem?_drop]

set_option maxHeartbeats 400000 in
theorem clone_any (b off : Nat) (n c : Nat) (zs : List Int) (w : World) (h : Ints .i32 w (some ⟨b, off, none⟩) zs) (hl : zs.length = n) (hn : n ≤ 1000) :
    Calls Tryd.prog 34 #[.slice (some ⟨b, off, none⟩) n c] w (Made 21 .i32 w zs) := by
  have HI := hide h
  have HL := hide hl
  clear h hl
  have hq : ∀ w, (binOp .eql 50 (.slice (some ⟨b, off, none⟩) n c) (.slice none 0 0)).run Tryd.prog w = .ok (.bool false) w := fun w => Lib.run_eql_slice_nil w 50 21 (some ⟨b, off, none⟩) n c 0 0 Tryd.underlying50
  go_enter Tryd.func34, Tryd.ntmps34
  go_wp2_with (at_builtin; refine wpList_cat elem50 rfl _ _ rfl rfl rfl (Own.empty w 21 .i32) (HI.out.alloc _) HL.out (by intro h; cases h) (by simp; omega) (by omega) ?_; intro v' w1 hown)
  go_ret
  exact ⟨_, rfl, by simpa using hown⟩

set_option maxHeartbeats 2000000 in
theorem clusters_any (A : Option Addr) (n c : Nat) (zs : List Int) (w : World) (h : Ints .i32 w A zs) (hl : zs.length = n) (hn : n ≤ 1000) (hc : n ≤ c) (hcm : c ≤ maxLen) (hS : Spans w) :
    Calls Tryd.prog 26 #[.slice A n c] w fun e w' => ∃ v, e = .returned v ∧ Rws 50 21 .i32 w.heap.size w w' v (clus zs) := by
  unfold maxLen at hcm
  have HL := hide hl
  have HS := hide hS
  clear hl hS
  go_enter Tryd.func26, Tryd.ntmps26
  go_wp2
  go_step3
  go_wp2
  go_step3
  go_wp2
  go_loopg [3, 10] n (fun g v i wr => ∃ (j : Nat) (acc : List (List Int)), j + g = n ∧ i = .int .i64 j ∧ Hid (acc ++ clus (zs.drop j) = clus zs) ∧ Hid (acc.length ≤ j) ∧ Hid (Rws 50 21 .i32 w.heap.size w wr v acc))
  case atStart => exact ⟨0, [], by omega, rfl, rfl, Nat.zero_le _, Rws.start (Nat.le_refl _)⟩
  case round =>
    obtain ⟨i, acc, hig, rfl, HC, HA, HR⟩ := hrel
    cases gk with
    | zero =>
      have E : Hid (acc = clus zs) := by have := HC.out; rw [List.drop_eq_nil_of_le (by rw [HL.out]; omega)] at this; unfold Hid; rw [← this]; simp [clus]
      have hge : (n : Int) ≤ (i : Int) := by omega
      go_wp2
      rw [Exit.noGoto_ret]
      go_ret
      exact ⟨_, rfl, by rw [← E.out]; exact HR.out⟩
    | succ g =>
      have hlt : i < n := by omega
      obtain ⟨b, off, rfl, hcell, hb⟩ := h.at (i := i) (by rw [HL.out]; exact hlt)
      obtain ⟨r, hr⟩ : ∃ r, zs.getD i 0 = r := ⟨_, rfl⟩
      have hcx : wr.cell? ⟨b, off + i, none⟩ = some (.int .i32 r) := by rw [← hr]; exact (HR.out.bel.cell (by exact hb)).trans hcell
      have HRr := hide hr
      clear hr hcell
      by_cases h0 : wOf r < 1
      · have HP : Hid (pos r = 0) := by unfold Hid pos; rw [if_neg (by omega)]
        have HC2 : Hid (acc ++ clus (zs.drop (i + 1)) = clus zs) := by unfold Hid; rw [← clus_skip zs i r (by rw [HL.out]; exact hlt) HRr.out h0]; exact HC.out
        clear h0
        go_wp2_with fail
        refine (columns_any r wr (HS.out.below HR.out.bel)).mono ?_
        rintro e w1 ⟨rfl, hb1⟩
        rw [HP.out]
        have HR1 := hide (HR.out.later hb1)
        go_wp2
        go_roundg g
        case measure => omega
        case rel => exact ⟨i + 1, acc, by omega, by go_num, HC2.out, Nat.le_succ_of_le HA.out, HR1.out⟩
      · obtain ⟨P1, hP⟩ : ∃ P1, pos r = P1 := ⟨_, rfl⟩
        have hP0 : (P1 == 0) = false := by
          have : 0 < P1 := by rw [← hP]; unfold pos; rw [if_pos (by omega)]; omega
          simp; omega
        have HP := hide hP
        have HT := hide (clus_take zs i r (by rw [HL.out]; exact hlt) HRr.out h0)
        clear h0 hP
        have p1 : (0 : Int) ≤ (i : Int) + 1 := by omega
        have p2 : (i : Int) + 1 ≤ (n : Int) := by omega
        have p3 : (i : Int) + 1 ≤ (c : Int) := by omega
        have p4 : (n : Int) ≤ (c : Int) := by omega
        obtain ⟨M, hM⟩ : ∃ M, n - (i + 1) = M := ⟨_, rfl⟩
        obtain ⟨C1, hC1⟩ : ∃ C1, c - (i + 1) = C1 := ⟨_, rfl⟩
        have hI3 := h.cut (i + 1) c (by rw [HL.out]; exact hc)
        obtain ⟨A3, hA3⟩ : ∃ A3, (if c = i + 1 then some (⟨b, off, none⟩ : Addr) else (some (⟨b, off, none⟩ : Addr)).map (·.add (i + 1))) = A3 := ⟨_, rfl⟩
        rw [hA3] at hI3
        have HA3 := hide hA3
        have hM9 : M ≤ 1000 := by omega
        have HM := hide hM
        have HC1 := hide hC1
        have HI3 := hide hI3
        clear hA3 hM hC1 hI3
        go_wp2_with fail
        refine (columns_any r wr (HS.out.below HR.out.bel)).mono ?_
        rintro e w1 ⟨rfl, hb1⟩
        rw [HP.out]
        have HR1 := hide (HR.out.later hb1)
        clear HR hb1 hcx
        go_wp2_with (with_reducible refine wpList_val (o := ⟨some 21, _, _, _, _, _⟩) rfl (v := .slice A3 M C1) ?_ ?_)
        · rw [← HA3.out, ← HM.out, ← HC1.out]
          go_simp
        go_wp2
        go_loopg [3, 23] M (fun g2 v s wy => ∃ q : Nat, q + g2 = M ∧ s = .int .i64 q ∧ Hid ((zs.drop (i + 1)).takeWhile mk = (zs.drop (i + 1)).take q ++ (zs.drop (i + 1 + q)).takeWhile mk) ∧ Hid (Rws 50 21 .i32 w.heap.size w wy v acc))
        case atStart => exact ⟨0, by omega, rfl, by unfold Hid; simp, HR1.out⟩
        case round =>
          obtain ⟨q, hqg, rfl, HW, HRy⟩ := hrel
          have p5 : ¬ c = i := by omega
          have p6 : (0 : Int) ≤ (i : Int) := by omega
          have p7 : (i : Int) ≤ (n : Int) := by omega
          have p8 : (i : Int) ≤ (c : Int) := by omega
          cases gk with
          | zero =>
            have hq : q = M := by omega
            have HD : Hid (Ints .i32 wr (some ⟨b, off + i, none⟩) (zs.drop i)) := by
              unfold Hid
              have := (h.drop i).below HRy.out.bel
              simpa [Addr.add_mid] using this
            have hall : (zs.drop (i + 1)).takeWhile mk = zs.drop (i + 1) := by
              have hM := HM.out
              rw [HW.out, hq, tw_end zs (i + 1 + M) (by rw [HL.out]; omega), List.append_nil, List.take_of_length_le (by rw [List.length_drop, HL.out]; omega)]
            have E : Hid (acc ++ [zs.drop i] = clus zs) := by
              unfold Hid
              rw [← HC.out, HT.out, hall, clus_marks _ hall, ← drop_at zs i r (by rw [HL.out]; exact hlt) HRr.out]
            have hge : (M : Int) ≤ (q : Int) := by omega
            clear hall
            obtain ⟨n2, hn2⟩ : ∃ n2, n - i = n2 := ⟨_, rfl⟩
            obtain ⟨c2, hc2⟩ : ∃ c2, c - i = c2 := ⟨_, rfl⟩
            have HN2 := hide hn2
            have HC2 := hide hc2
            clear hn2 hc2 hq
            go_wp2_with (with_reducible refine wpList_val (o := ⟨some 46, _, _, _, _, _⟩) rfl (v := .slice (some ⟨b, off + i, none⟩) n2 c2) ?_ ?_)
            · rw [← HN2.out, ← HC2.out]
              go_simp
            have HLL : Hid ((zs.drop i).length = n2) := by unfold Hid; rw [List.length_drop, HL.out]; exact HN2.out
            generalize zs.drop i = L at HD E HLL
            go_wp2_with fail
            refine (clone_any b (off + i) n2 c2 L wr HD.out HLL.out (by have := HN2.out; omega)).mono ?_
            rintro e w2 ⟨x, rfl, hx⟩
            obtain ⟨Ax, cx, rfl, -⟩ := hx.form2
            have hcl := hx.cl.less (Nat.le_trans HRy.out.le (Nat.le_refl _))
            have hrw := HRy.out.later hx.bel
            have hal : acc.length ≤ 1000000 := by have := HA.out; omega
            go_wp2_with (at_builtin; refine wpList_pushR elem56 (by decide) rfl _ _ rfl rfl rfl hrw hcl hal ?_; intro v' w3 hown3)
            rw [Exit.noGoto_ret]
            go_ret
            exact ⟨_, rfl, by rw [← E.out]; exact hown3⟩
          | succ g2 =>
            have hqM : q < M := by omega
            have hM := HM.out
            obtain ⟨b3, off3, rfl, hc3, hb3⟩ := HI3.out.at (i := q) (by rw [List.length_drop, HL.out]; omega)
            obtain ⟨m1, hm1⟩ : ∃ m1, zs.getD (i + 1 + q) 0 = m1 := ⟨_, rfl⟩
            have hc4 : wr.cell? ⟨b3, off3 + q, none⟩ = some (.int .i32 m1) := by
              rw [← hm1]
              refine ((HRy.out.bel.cell (by exact hb3)).trans hc3).trans ?_
              simp [List.getElem?_drop]
            have HM1 := hide hm1
            clear hc3 hm1 hM
            by_cases hmk : mk m1 = true
            · have HK : Hid ((wOf m1 == 0) = true) := hmk
              have HW2 : Hid ((zs.drop (i + 1)).takeWhile mk = (zs.drop (i + 1)).take (q + 1) ++ (zs.drop (i + 1 + (q + 1))).takeWhile mk) := by
                have hM := HM.out
                unfold Hid
                rw [HW.out, tw_step zs (i + 1 + q) m1 (by rw [HL.out]; omega) HM1.out hmk, take_drop_snoc zs (i + 1) q m1 (by rw [HL.out]; omega) HM1.out]
                simp [Nat.add_assoc]
              clear hmk
              go_wp2_with fail
              refine (mark_any m1 wr (HS.out.below HRy.out.bel)).mono ?_
              rintro e w2 ⟨rfl, hb2⟩
              rw [HK.out]
              go_wp2
              go_roundg g2
              case measure => omega
              case rel => exact ⟨q + 1, by omega, by go_num, HW2.out, HRy.out.later hb2⟩
            · have HK : Hid ((wOf m1 == 0) = false) := by unfold Hid; simpa [mk] using hmk
              have HD : Hid (Ints .i32 wr (some ⟨b, off + i, none⟩) ((zs.drop i).take (q + 1))) := by
                unfold Hid
                have := ((h.drop i).take (q + 1)).below HRy.out.bel
                simpa [Addr.add_mid] using this
              have E : Hid ((acc ++ [(zs.drop i).take (q + 1)]) ++ clus (zs.drop (i + 1)) = clus zs) := by
                have hM := HM.out
                unfold Hid
                rw [← HC.out, HT.out, HW.out, tw_stop zs (i + 1 + q) m1 (by rw [HL.out]; omega) HM1.out (by simpa using hmk), List.append_nil, drop_at zs i r (by rw [HL.out]; exact hlt) HRr.out]
                simp
              have HQ : Hid (((zs.drop i).take (q + 1)).length = q + 1) := by have hM := HM.out; unfold Hid; rw [List.length_take, List.length_drop, HL.out]; omega
              have p9 : (0 : Int) ≤ (i : Int) + 1 + (q : Int) := by omega
              have p10 : (i : Int) ≤ (i : Int) + 1 + (q : Int) := by omega
              have p11 : (i : Int) + 1 + (q : Int) ≤ (c : Int) := by have hM := HM.out; omega
              obtain ⟨c2, hc2⟩ : ∃ c2, c - i = c2 := ⟨_, rfl⟩
              have HC2 := hide hc2
              clear hmk hc2
              go_wp2_with fail
              refine (mark_any m1 wr (HS.out.below HRy.out.bel)).mono ?_
              rintro e w2 ⟨rfl, hb2⟩
              rw [HK.out]
              have HR2 := hide (HRy.out.later hb2)
              have HD2 := hide (HD.out.below hb2)
              clear hb2 hc4
              go_wp2_with (with_reducible refine wpList_val (o := ⟨some 38, _, _, _, _, _⟩) rfl (v := .slice (some ⟨b, off + i, none⟩) (q + 1) c2) ?_ ?_)
              · rw [← HC2.out]
                go_simp
                omega
              generalize (zs.drop i).take (q + 1) = L at HD HD2 E HQ
              go_wp2_with fail
              refine (clone_any b (off + i) (q + 1) c2 L w2 HD2.out HQ.out (by omega)).mono ?_
              rintro e w3 ⟨x, rfl, hx⟩
              obtain ⟨Ax, cx, rfl, -⟩ := hx.form2
              have hcl := hx.cl.less HR2.out.le
              have hrw := HR2.out.later hx.bel
              have hal : acc.length ≤ 1000000 := by have := HA.out; omega
              go_wp2_with (at_builtin; refine wpList_pushR elem56 (by decide) rfl _ _ rfl rfl rfl hrw hcl hal ?_; intro v' w4 hown4)
              go_roundg g
              case measure => omega
              case rel => exact ⟨i + 1, _, by omega, by go_num, E.out, by have := HA.out; unfold Hid; simp; omega, hown4⟩
end Go.Proofs.YtmggkdimjdbmoaaDoor
