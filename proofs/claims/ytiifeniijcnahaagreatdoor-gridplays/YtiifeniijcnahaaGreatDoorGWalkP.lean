/-
  The walk of the law GridPlays.
-/
import Derived.Test.YtiifeniijcnahaaGreatDoorGGreat
import Derived.Test.YtiifeniijcnahaaGreatDoorChainT
namespace Go.Proofs.YtiifeniijcnahaaGreatDoor
set_option maxRecDepth 100000
open Go.ChangeShapes Go.WideShapes Go.ChangeAt Go.RowKit
set_option linter.unusedVariables false

theorem atC_ok {g : Gd} {R C : Nat} (hok : GOk g R C) {r c x m y : Int} {d : Nat} {p : Pn} {ok : Bool} (h : atC g R C r c = (⟨x, m, y, d, p⟩, ok)) : R32 x ∧ R32 m ∧ R32 y ∧ d < 256 := by
  unfold atC at h
  split at h
  · rename_i q
    simp only [Prod.mk.injEq] at h
    have hr : r.toNat < R := by unfold hasG at q; omega
    have := (hok.each _ hr).2.2 c.toNat (by rw [(hok.each _ hr).1]; omega)
    rw [h.1] at this
    exact this
  · simp only [Prod.mk.injEq, zeroC, Cel.mk.injEq] at h
    obtain ⟨⟨rfl, rfl, rfl, rfl, -⟩, -⟩ := h
    exact ⟨r32_0, r32_0, r32_0, by omega⟩
set_option maxHeartbeats 8000000 in
theorem gridPlays_walk (rows cols : Int) (A0 : Option Addr) (len cap0 : Nat) (r c : Int) (w : World) (hr : (Lit.int .i64 rows).wf = true) (hc : (Lit.int .i64 cols).wf = true) (ha : Acts w A0 len) (hwr : (Lit.int .i64 r).wf = true) (hwc : (Lit.int .i64 c).wf = true) (hS : Spans w) :
    Calls Tryz.prog 3 #[.int .i64 rows, .int .i64 cols, .slice A0 len cap0, .int .i64 r, .int .i64 c] w fun e w' => e = .returned (.bool true) ∧ Below w.heap.size w w' := by
  have HA := hide ha
  have HS := hide hS
  obtain ⟨sr, hsr⟩ : ∃ sr, smallI rows = sr := ⟨_, rfl⟩
  obtain ⟨sc, hsc⟩ : ∃ sc, smallI cols = sc := ⟨_, rfl⟩
  have HSR := hide hsr
  have HSC := hide hsc
  clear ha hS hr hc hwr hwc hsr hsc
  by_cases hs : sizeN sr sc
  · have HSZ : Hid (sizeB sr sc = true) := by unfold Hid sizeB; simpa using hs
    obtain ⟨R0, C0, rfl, rfl, q1, q2, q3, q4⟩ := sizeN_small hs
    clear hs
    go_enter Tryz.func3, Tryz.ntmps3
    go_wp2_with fail
    refine (small_any rows w).mono ?_
    rintro e w1 ⟨rfl, rfl⟩
    rw [HSR.out]
    go_wp2_with fail
    refine (small_any cols w).mono ?_
    rintro e w1 ⟨rfl, rfl⟩
    rw [HSC.out]
    go_wp2_with fail
    refine (gnew_yes R0 C0 q1 q2 q3 q4 w).mono ?_
    rintro e w1 ⟨G1, L1, M1, rfl, hg, hb, n1, n2, n3⟩
    have HG1 := hide hg
    have HB1 := hide hb
    have HN : Hid (w.heap.size ≤ G1 ∧ w.heap.size ≤ L1 ∧ w.heap.size ≤ M1) := ⟨n1, n2, n3⟩
    clear hg hb n1 n2 n3
    go_wp2_with fail
    refine (rsize_any (R0 : Int) (C0 : Int) w1).mono ?_
    rintro e w2 ⟨rfl, rfl⟩
    rw [HSZ.out]
    go_wp2_with fail
    refine (rgnew_v R0 C0 q1 q2 w1).mono ?_
    rintro e w3 ⟨c1, cap3, rfl, hl, hb, -⟩
    obtain ⟨Q13, hQ⟩ : ∃ Q13, w3.heap.size = Q13 := ⟨_, rfl⟩
    obtain ⟨W5, hW5⟩ : ∃ W5, w3.alloc (.cells #[.slice (some ⟨c1, 0, none⟩) R0 cap3, .int .i64 0, .int .i64 0] 32) = W5 := ⟨_, rfl⟩
    have hb5 : Below w1.heap.size w1 W5 := by rw [← hW5]; exact hb.alloc hb.size _
    have HB5 := hide (HB1.out.trans (hb5.mono HB1.out.size))
    have hq3 : w.heap.size ≤ Q13 := by rw [← hQ]; exact Nat.le_trans HB1.out.size hb.size
    have hx3 : Whole W5 Q13 32 [.slice (some ⟨c1, 0, none⟩) R0 cap3, .int .i64 0, .int .i64 0] := by rw [← hW5, ← hQ]; exact Whole.new w3 32 [.slice (some ⟨c1, 0, none⟩) R0 cap3, .int .i64 0, .int .i64 0]
    have hl5 : Lns W5 (some ⟨c1, 0, none⟩) (newG R0 C0).ls := by rw [← hW5]; exact hl.alloc _
    have hok := GOk.new (R := R0) (C := C0) q1 q2 q3 q4
    have HX00 : Hid (One w W5 G1 L1 M1 R0 C0 (newG R0 C0) Q13 (some ⟨c1, 0, none⟩) cap3) := ⟨⟨HG1.out.later hb5, hok, hx3, hl5, HN.out.1, HN.out.2.1, HN.out.2.2, hq3⟩, HS.out.below HB5.out, HB5.out, HS.out.size⟩
    have HW5 := hide hW5
    have HQ := hide hQ
    clear hl hb hb5 hW5 hQ hx3 hl5 hok hq3
    go_wp2
    rw [HW5.out, HQ.out]
    go_loopw [11, 14] (fun gp i wr => ∃ (k : Nat) (g : Gd) (R C G L M : Nat) (A : Option Addr) (cap : Nat), k ≤ len ∧ i = .int .i64 k ∧ gp = .pointer (some ⟨G, 0, none⟩) ∧ One w wr G L M R C g Q13 A cap) (fun _ i _ => len - (intOf i).toNat)
    case atStart => exact ⟨0, _, _, _, _, _, _, _, _, Nat.zero_le _, rfl, rfl, HX00.out⟩
    case round =>
      obtain ⟨k, g, R, C, G, L, M, A, cap, hk, rfl, rfl, hx⟩ := hrel
      have HX1 := hide hx
      clear hx
      by_cases hlt : k < len
      · by_cases h40 : k < 40
        · obtain ⟨b, off, a, rfl, lb, hac, F0, F1, F2, F3, F4, F5, F6, F7, F8, F9, F10, F11, F12, F13, F14, F15⟩ := HA.out.at (i := k) hlt
          have HAC := hide hac
          have HX1d := hide HX1.out.drew
          obtain ⟨x0, x1, x2, lx⟩ := cells3 HX1.out.p.q
          clear hac
          go_wp2
          refine wp_region_tree (fun w' => Whole w' Q13 32 [.slice A R cap, .int .i64 (g.row : Int), .int .i64 (g.col : Int)] ∧ Below w.heap.size w w') (.take 0 (.take 2 (.take 3 (.take 4 (.take 1 (.take 5 (.two 6 (.take 7 (.take 8 (.take 9 (.take 10 (.alone 11 (.alone 12 (.alone 13 (.alone 14 .done)))))))) 11 (.alone 6 (.take 7 (.take 8 (.take 9 (.take 10 (.alone 12 (.alone 13 (.alone 14 .done))))))))))))))) (by kernel_rfl) (by kernel_rfl) (by kernel_rfl) (fun _ _ _ _ _ h => h) ?_ ?_
          · exact ⟨HX1.out.p.q.drewN 1, HX1.out.bel.drewN 1⟩
          refine tree_take (v := ?_) (by simp only [List.getElem?_toArray, List.getElem?_cons_zero]; rfl) (by rfl) (fun w hS => ?_) ?_
          rotate_left
          · go_simp <;> with_reducible rfl
          simp only [Act.put, List.setIfInBounds_toArray, List.set_cons_zero, List.set_cons_succ]
          refine tree_take (v := ?_) (by simp only [List.getElem?_toArray, List.getElem?_cons_zero, List.getElem?_cons_succ]; rfl) (by rfl) (fun w hS => ?_) ?_
          rotate_left
          · go_simp <;> with_reducible rfl
          simp only [Act.put, List.setIfInBounds_toArray, List.set_cons_zero, List.set_cons_succ]
          refine tree_take (v := ?_) (by simp only [List.getElem?_toArray, List.getElem?_cons_zero, List.getElem?_cons_succ]; rfl) (by rfl) (fun w hS => ?_) ?_
          rotate_left
          · go_simp <;> with_reducible rfl
          simp only [Act.put, List.setIfInBounds_toArray, List.set_cons_zero, List.set_cons_succ]
          refine tree_take (v := ?_) (by simp only [List.getElem?_toArray, List.getElem?_cons_zero, List.getElem?_cons_succ]; rfl) (by rfl) (fun w hS => ?_) ?_
          rotate_left
          · go_simp <;> with_reducible rfl
          simp only [Act.put, List.setIfInBounds_toArray, List.set_cons_zero, List.set_cons_succ]
          refine tree_take (v := ?_) (by simp only [List.getElem?_toArray, List.getElem?_cons_zero, List.getElem?_cons_succ]; rfl) (by rfl) (fun w hS => ?_) ?_
          rotate_left
          · obtain ⟨d0, d1, d2, -⟩ := cells3 hS.1; go_simp <;> with_reducible rfl
          simp only [Act.put, List.setIfInBounds_toArray, List.set_cons_zero, List.set_cons_succ]
          refine tree_take (v := ?_) (by simp only [List.getElem?_toArray, List.getElem?_cons_zero, List.getElem?_cons_succ]; rfl) (by rfl) (fun w hS => ?_) ?_
          rotate_left
          · have f0 := (hS.2.cell (p := ⟨b, off + k * 16, none⟩) lb).trans F0; have f1 := (hS.2.cell (p := ⟨b, off + k * 16 + 1, none⟩) lb).trans F1; have f2 := (hS.2.cell (p := ⟨b, off + k * 16 + 2, none⟩) lb).trans F2; have f3 := (hS.2.cell (p := ⟨b, off + k * 16 + 3, none⟩) lb).trans F3; have f4 := (hS.2.cell (p := ⟨b, off + k * 16 + 4, none⟩) lb).trans F4; have f5 := (hS.2.cell (p := ⟨b, off + k * 16 + 5, none⟩) lb).trans F5; have f6 := (hS.2.cell (p := ⟨b, off + k * 16 + 6, none⟩) lb).trans F6; have f7 := (hS.2.cell (p := ⟨b, off + k * 16 + 7, none⟩) lb).trans F7; have f8 := (hS.2.cell (p := ⟨b, off + k * 16 + 8, none⟩) lb).trans F8; have f9 := (hS.2.cell (p := ⟨b, off + k * 16 + 9, none⟩) lb).trans F9; have f10 := (hS.2.cell (p := ⟨b, off + k * 16 + 10, none⟩) lb).trans F10; have f11 := (hS.2.cell (p := ⟨b, off + k * 16 + 11, none⟩) lb).trans F11; have f12 := (hS.2.cell (p := ⟨b, off + k * 16 + 12, none⟩) lb).trans F12; have f13 := (hS.2.cell (p := ⟨b, off + k * 16 + 13, none⟩) lb).trans F13; have f14 := (hS.2.cell (p := ⟨b, off + k * 16 + 14, none⟩) lb).trans F14; have f15 := (hS.2.cell (p := ⟨b, off + k * 16 + 15, none⟩) lb).trans F15; go_simp <;> with_reducible rfl
          simp only [Act.put, List.setIfInBounds_toArray, List.set_cons_zero, List.set_cons_succ]
          refine tree_two (by simp only [List.getElem?_toArray, List.getElem?_cons_zero, List.getElem?_cons_succ]; rfl) (by simp only [List.getElem?_toArray, List.getElem?_cons_zero, List.getElem?_cons_succ]; rfl) ?_ ?_
          · intro K hK
            go_wp2_with fail
            refine (do_any HX1d.out.p.grd HX1d.out.p.ok A cap HX1d.out.p.lns HX1d.out.sp a (HAC.out.below HX1d.out.bel)).mono ?_
            rintro e k1 ⟨g', R', C', G', L', M', A', cap', rfl, hg, hl, hok, ht, hG, hL, hM⟩
            have HG1 := hide hg
            have HL1 := hide hl
            have HOK1 := hide hok
            have HT1 := hide ht
            have HQ1 := hide (HX1d.out.p.turned ht)
            have HBel1 := hide (ht.below HX1d.out.bel HX1d.out.bel.size HX1d.out.p.hG HX1d.out.p.hL HX1d.out.p.hM)
            have HW : Hid ((G' = G ∨ wr.heap.size ≤ G') ∧ (L' = L ∨ wr.heap.size ≤ L') ∧ (M' = M ∨ wr.heap.size ≤ M')) := by unfold Hid; exact ⟨hG.imp id (fun q => Nat.le_trans (Nat.le_refl _) q), hL.imp id (fun q => Nat.le_trans (Nat.le_refl _) q), hM.imp id (fun q => Nat.le_trans (Nat.le_refl _) q)⟩
            clear hg hl hok ht hG hL hM
            go_wp2
            refine hK.out _ _ (⟨HQ1.out, HBel1.out⟩) ?_
            clear hK K
            refine tree_take (v := ?_) (by simp only [List.getElem?_toArray, List.getElem?_cons_zero, List.getElem?_cons_succ]; rfl) (by rfl) (fun w hS => ?_) ?_
            rotate_left
            · go_simp <;> with_reducible rfl
            simp only [Act.put, List.setIfInBounds_toArray, List.set_cons_zero, List.set_cons_succ]
            refine tree_take (v := ?_) (by simp only [List.getElem?_toArray, List.getElem?_cons_zero, List.getElem?_cons_succ]; rfl) (by rfl) (fun w hS => ?_) ?_
            rotate_left
            · go_simp <;> with_reducible rfl
            simp only [Act.put, List.setIfInBounds_toArray, List.set_cons_zero, List.set_cons_succ]
            refine tree_take (v := ?_) (by simp only [List.getElem?_toArray, List.getElem?_cons_zero, List.getElem?_cons_succ]; rfl) (by rfl) (fun w hS => ?_) ?_
            rotate_left
            · go_simp <;> with_reducible rfl
            simp only [Act.put, List.setIfInBounds_toArray, List.set_cons_zero, List.set_cons_succ]
            refine tree_take (v := ?_) (by simp only [List.getElem?_toArray, List.getElem?_cons_zero, List.getElem?_cons_succ]; rfl) (by rfl) (fun w hS => ?_) ?_
            rotate_left
            · go_simp <;> with_reducible rfl
            simp only [Act.put, List.setIfInBounds_toArray, List.set_cons_zero, List.set_cons_succ]
            refine tree_alone (by simp only [List.getElem?_toArray, List.getElem?_cons_zero, List.getElem?_cons_succ]; rfl) ?_
            intro K hK
            go_wp2
            refine hK.out _ _ (⟨HQ1.out.alloc _, HBel1.out.alloc HBel1.out.size _⟩) ?_
            clear hK K
            refine tree_alone (by simp only [List.getElem?_toArray, List.getElem?_cons_zero, List.getElem?_cons_succ]; rfl) ?_
            intro K hK
            go_wp2
            refine hK.out _ _ (⟨HQ1.out.alloc _, HBel1.out.alloc HBel1.out.size _⟩) ?_
            clear hK K
            refine tree_alone (by simp only [List.getElem?_toArray, List.getElem?_cons_zero, List.getElem?_cons_succ]; rfl) ?_
            intro K hK
            go_wp2
            refine hK.out _ _ (⟨HQ1.out.alloc _, HBel1.out.alloc HBel1.out.size _⟩) ?_
            clear hK K
            refine tree_alone (by simp only [List.getElem?_toArray, List.getElem?_cons_zero, List.getElem?_cons_succ]; rfl) ?_
            intro K hK
            go_wp2
            refine hK.out _ _ (⟨HQ1.out.alloc _, HBel1.out.alloc HBel1.out.size _⟩) ?_
            clear hK K
            refine tree_done ?_
            obtain ⟨Q16, hQ16⟩ : ∃ Q16, k1.heap.size = Q16 := ⟨_, rfl⟩
            obtain ⟨W5, hW5⟩ : ∃ W5, k1.alloc (.cells #[.slice A' R' cap', .int .i64 (g'.row : Int), .int .i64 (g'.col : Int)] 32) = W5 := ⟨_, rfl⟩
            have HN16 : Hid (Whole W5 Q16 32 [.slice A' R' cap', .int .i64 (g'.row : Int), .int .i64 (g'.col : Int)]) := by unfold Hid; rw [← hW5, ← hQ16]; exact Whole.new k1 32 [.slice A' R' cap', .int .i64 (g'.row : Int), .int .i64 (g'.col : Int)]
            have HG5 : Hid (Grd W5 G' L' M' R' C' g') := by unfold Hid; rw [← hW5]; exact HG1.out.later (new1W _ _)
            have HL5 : Hid (Lns W5 A' g'.ls) := by unfold Hid; rw [← hW5]; exact HL1.out.alloc _
            have HT5 : Hid (Trn G L M wr W5) := by unfold Hid; rw [← hW5]; exact (Trn.ofB ((Below.refl wr.heap.size wr).drewN 1) HT1.out).thenB (new1W _ _)
            have HW5 := hide hW5
            have HQ16 := hide hQ16
            clear hW5 hQ16
            simp only [HQ16.out, HW5.out]
            have HQ5 := hide (HX1.out.p.turned HT5.out)
            obtain ⟨n0, n1, n2, ln⟩ := cells3 HN16.out
            obtain ⟨m0, m1, m2, lm⟩ := cells3 HQ5.out
            have hmf := HQ5.out.frozen
            clear F0 F1 F2 F3 F4 F5 F6 F7 F8 F9 F10 F11 F12 F13 F14 F15 x0 x1 x2 lx
            go_wp2
            refine wp_region_chainL (fun _ => True) 3 [(2, 0), (2, 2), (1, 1), (3, 3)] (by kernel_rfl) (by kernel_rfl) (by kernel_rfl) (fun _ _ _ _ _ h => h) ?_ ?_
            · exact trivial
            refine chainL_pure (v := ?_) (by simp only [List.getElem?_toArray, List.getElem?_cons_zero]; rfl) (by rfl) (fun w => ?_) ?_
            rotate_left
            · go_simp <;> with_reducible rfl
            simp only [Act.put, List.setIfInBounds_toArray, List.set_cons_zero, List.set_cons_succ]
            refine chainL_pure (v := ?_) (by simp only [List.getElem?_toArray, List.getElem?_cons_zero, List.getElem?_cons_succ]; rfl) (by rfl) (fun w => ?_) ?_
            rotate_left
            · go_simp <;> with_reducible rfl
            simp only [Act.put, List.setIfInBounds_toArray, List.set_cons_zero, List.set_cons_succ]
            refine chainL_alone (by simp only [List.getElem?_toArray, List.getElem?_cons_zero, List.getElem?_cons_succ]; rfl) ?_
            intro K hK
            go_wp2
            refine hK.out _ _ (trivial) ?_
            clear hK K
            refine chainL_late (by simp only [List.getElem?_toArray, List.getElem?_cons_zero, List.getElem?_cons_succ]; rfl) ?_
            intro K hK
            go_wp2
            refine hK.out _ _ ?_
            clear hK K
            refine chainL_nil ?_
            have HN0 := hide (HX1.out.next HG5.out HL5.out HOK1.out HT5.out HW.out.1 HW.out.2.1 HW.out.2.2 (cap' := cap'))
            obtain ⟨W6, hW6⟩ : ∃ W6, (((W5.setCell ⟨Q13, 0, none⟩ (.slice A' R' cap')).setCell ⟨Q13, 1, none⟩ (.int .i64 (g'.row : Int))).setCell ⟨Q13, 2, none⟩ (.int .i64 (g'.col : Int))).drew = W6 := ⟨_, rfl⟩
            have HN6 : Hid (One w W6 G' L' M' R' C' g' Q13 A' cap') := by unfold Hid; rw [← hW6]; exact HN0.out.drew
            rw [hW6]
            clear hW6 n0 n1 n2 ln m0 m1 m2 lm hmf
            obtain ⟨x0, x1, x2, lx⟩ := cells3 HN6.out.p.q
            go_wp2_with fail
            refine (lgsame_yes HN6.out.p.grd HN6.out.p.ok A' cap' HN6.out.p.lns).mono ?_
            rintro e k2 ⟨rfl, hb⟩
            have HN7 := hide (HN6.out.later hb)
            clear hb x0 x1 x2 lx
            obtain ⟨x0, x1, x2, lx⟩ := cells3 HN7.out.p.q
            go_wp2_with fail
            refine (gright_yes HN7.out.p.grd HN7.out.p.ok HN7.out.sp).mono ?_
            rintro e k3 ⟨rfl, hb⟩
            have HN8 := hide (HN7.out.later hb)
            clear hb x0 x1 x2 lx
            obtain ⟨x0, x1, x2, lx⟩ := cells3 HN8.out.p.q
            go_wp2_with fail
            refine (rgright_yes A' R' C' cap' g' k3 HN8.out.p.lns HN8.out.p.ok).mono ?_
            rintro e k4 ⟨rfl, hb⟩
            have HN9 := hide (HN8.out.later hb)
            clear hb x0 x1 x2 lx
            go_wp2
            go_roundw
            case rel => exact ⟨k + 1, _, _, _, _, _, _, _, _, hlt, by go_num, by rfl, HN9.out⟩
            case measure => simp [intOf]; omega
          · intro K hK
            go_wp2
            refine hK.out _ _ (⟨(HX1.out.p.q.alloc _).drewN 1, (HX1.out.bel.alloc HX1.out.bel.size _).drewN 1⟩) ?_
            clear hK K
            obtain ⟨k0, hk0⟩ : ∃ k0, (wr.alloc (.cells #[.slice none 0 0, .int .i64 0, .int .i64 0] 32)).drew = k0 := ⟨_, rfl⟩
            have hk0b : Below wr.heap.size wr k0 := by rw [← hk0]; exact ((Below.refl _ _).alloc (Nat.le_refl _) _).drewN 1
            have HK0 := hide (HX1.out.later hk0b)
            have hk0s := hk0b.size
            have HZn : Hid (Whole k0 wr.heap.size 32 [.slice none 0 0, .int .i64 0, .int .i64 0]) := by unfold Hid; rw [← hk0]; exact (Whole.new wr 32 [.slice none 0 0, .int .i64 0, .int .i64 0]).drewN 1
            have hq1316 : Q13 ≠ wr.heap.size := by have := HX1.out.p.q.lt; omega
            have hq16 : w.heap.size ≤ wr.heap.size := HX1.out.bel.size
            rw [hk0]
            have HK0b := hide hk0b
            clear hk0 hk0b
            refine tree_alone (by simp only [List.getElem?_toArray, List.getElem?_cons_zero, List.getElem?_cons_succ]; rfl) ?_
            intro K hK
            go_wp2_with fail
            refine (do_any HK0.out.p.grd HK0.out.p.ok A cap HK0.out.p.lns HK0.out.sp a (HAC.out.below HK0.out.bel)).mono ?_
            rintro e k1 ⟨g', R', C', G', L', M', A', cap', rfl, hg, hl, hok, ht, hG, hL, hM⟩
            have HG1 := hide hg
            have HL1 := hide hl
            have HOK1 := hide hok
            have HT1 := hide ht
            have HQ1 := hide (HK0.out.p.turned ht)
            have HBel1 := hide (ht.below HK0.out.bel HK0.out.bel.size HK0.out.p.hG HK0.out.p.hL HK0.out.p.hM)
            have HW : Hid ((G' = G ∨ wr.heap.size ≤ G') ∧ (L' = L ∨ wr.heap.size ≤ L') ∧ (M' = M ∨ wr.heap.size ≤ M')) := by unfold Hid; exact ⟨hG.imp id (fun q => Nat.le_trans hk0s q), hL.imp id (fun q => Nat.le_trans hk0s q), hM.imp id (fun q => Nat.le_trans hk0s q)⟩
            obtain ⟨capz, psz, roomz, morez, hatz⟩ := HK0.out.p.grd
            have HZn := hide (ht.whole HZn.out (HZn.out.ne hatz.top (by decide)) (HZn.out.ne hatz.lines (by decide)) (HZn.out.ne hatz.piece (by decide)))
            clear hatz
            obtain ⟨n0, n1, n2, ln⟩ := cells3 HZn.out
            have hnf := HZn.out.frozen
            clear hg hl hok ht hG hL hM
            go_wp2
            refine hK.out _ _ (⟨HQ1.out, HBel1.out⟩) ?_
            clear hK K
            refine tree_take (v := ?_) (by simp only [List.getElem?_toArray, List.getElem?_cons_zero, List.getElem?_cons_succ]; rfl) (by rfl) (fun w hS => ?_) ?_
            rotate_left
            · go_simp <;> with_reducible rfl
            simp only [Act.put, List.setIfInBounds_toArray, List.set_cons_zero, List.set_cons_succ]
            refine tree_take (v := ?_) (by simp only [List.getElem?_toArray, List.getElem?_cons_zero, List.getElem?_cons_succ]; rfl) (by rfl) (fun w hS => ?_) ?_
            rotate_left
            · go_simp <;> with_reducible rfl
            simp only [Act.put, List.setIfInBounds_toArray, List.set_cons_zero, List.set_cons_succ]
            refine tree_take (v := ?_) (by simp only [List.getElem?_toArray, List.getElem?_cons_zero, List.getElem?_cons_succ]; rfl) (by rfl) (fun w hS => ?_) ?_
            rotate_left
            · go_simp <;> with_reducible rfl
            simp only [Act.put, List.setIfInBounds_toArray, List.set_cons_zero, List.set_cons_succ]
            refine tree_take (v := ?_) (by simp only [List.getElem?_toArray, List.getElem?_cons_zero, List.getElem?_cons_succ]; rfl) (by rfl) (fun w hS => ?_) ?_
            rotate_left
            · go_simp <;> with_reducible rfl
            simp only [Act.put, List.setIfInBounds_toArray, List.set_cons_zero, List.set_cons_succ]
            refine tree_alone (by simp only [List.getElem?_toArray, List.getElem?_cons_zero, List.getElem?_cons_succ]; rfl) ?_
            intro K hK
            go_wp2
            refine hK.out _ _ (⟨HQ1.out, HBel1.out⟩) ?_
            clear hK K
            refine tree_alone (by simp only [List.getElem?_toArray, List.getElem?_cons_zero, List.getElem?_cons_succ]; rfl) ?_
            intro K hK
            go_wp2
            refine hK.out _ _ (⟨HQ1.out.same (heap_put3 _ _ _ _ _ _ hq1316), below_put3 HBel1.out hq16 _ _ _⟩) ?_
            clear hK K
            refine tree_alone (by simp only [List.getElem?_toArray, List.getElem?_cons_zero, List.getElem?_cons_succ]; rfl) ?_
            intro K hK
            go_wp2
            refine hK.out _ _ (⟨HQ1.out.same (heap_put3 _ _ _ _ _ _ hq1316), below_put3 HBel1.out hq16 _ _ _⟩) ?_
            clear hK K
            refine tree_done ?_
            obtain ⟨Q16, hQ16⟩ : ∃ Q16, wr.heap.size = Q16 := ⟨_, rfl⟩
            rw [hQ16] at HZn
            obtain ⟨W5, hW5⟩ : ∃ W5, ((k1.setCell ⟨Q16, 0, none⟩ (.slice A' R' cap')).setCell ⟨Q16, 1, none⟩ (.int .i64 (g'.row : Int))).setCell ⟨Q16, 2, none⟩ (.int .i64 (g'.col : Int)) = W5 := ⟨_, rfl⟩
            have HN16 : Hid (Whole W5 Q16 32 [.slice A' R' cap', .int .i64 (g'.row : Int), .int .i64 (g'.col : Int)]) := by unfold Hid; rw [← hW5]; exact put3 HZn.out _ _ _
            have HG5 : Hid (Grd W5 G' L' M' R' C' g') := by unfold Hid; rw [← hW5]; exact HG1.out.put3 HZn.out _ _ _
            have HL5 : Hid (Lns W5 A' g'.ls) := by unfold Hid; rw [← hW5]; exact HL1.out.put3 HZn.out (by decide) (by decide) _ _ _
            have HT5 : Hid (Trn G L M wr W5) := by unfold Hid; rw [← hW5]; exact (Trn.ofB HK0b.out HT1.out).put3 (by rw [← hQ16]; exact Nat.le_refl _) _ _ _
            have HW5 := hide hW5
            have HQ16 := hide hQ16
            clear hW5 hQ16 n0 n1 n2 ln hnf hq1316 hq16 hk0s
            simp only [HQ16.out, HW5.out]
            have HQ5 := hide (HX1.out.p.turned HT5.out)
            obtain ⟨n0, n1, n2, ln⟩ := cells3 HN16.out
            obtain ⟨m0, m1, m2, lm⟩ := cells3 HQ5.out
            have hmf := HQ5.out.frozen
            clear F0 F1 F2 F3 F4 F5 F6 F7 F8 F9 F10 F11 F12 F13 F14 F15 x0 x1 x2 lx
            go_wp2
            refine wp_region_chainL (fun _ => True) 3 [(2, 0), (2, 2), (1, 1), (3, 3)] (by kernel_rfl) (by kernel_rfl) (by kernel_rfl) (fun _ _ _ _ _ h => h) ?_ ?_
            · exact trivial
            refine chainL_pure (v := ?_) (by simp only [List.getElem?_toArray, List.getElem?_cons_zero]; rfl) (by rfl) (fun w => ?_) ?_
            rotate_left
            · go_simp <;> with_reducible rfl
            simp only [Act.put, List.setIfInBounds_toArray, List.set_cons_zero, List.set_cons_succ]
            refine chainL_pure (v := ?_) (by simp only [List.getElem?_toArray, List.getElem?_cons_zero, List.getElem?_cons_succ]; rfl) (by rfl) (fun w => ?_) ?_
            rotate_left
            · go_simp <;> with_reducible rfl
            simp only [Act.put, List.setIfInBounds_toArray, List.set_cons_zero, List.set_cons_succ]
            refine chainL_alone (by simp only [List.getElem?_toArray, List.getElem?_cons_zero, List.getElem?_cons_succ]; rfl) ?_
            intro K hK
            go_wp2
            refine hK.out _ _ (trivial) ?_
            clear hK K
            refine chainL_late (by simp only [List.getElem?_toArray, List.getElem?_cons_zero, List.getElem?_cons_succ]; rfl) ?_
            intro K hK
            go_wp2
            refine hK.out _ _ ?_
            clear hK K
            refine chainL_nil ?_
            have HN0 := hide (HX1.out.next HG5.out HL5.out HOK1.out HT5.out HW.out.1 HW.out.2.1 HW.out.2.2 (cap' := cap'))
            obtain ⟨W6, hW6⟩ : ∃ W6, (((W5.setCell ⟨Q13, 0, none⟩ (.slice A' R' cap')).setCell ⟨Q13, 1, none⟩ (.int .i64 (g'.row : Int))).setCell ⟨Q13, 2, none⟩ (.int .i64 (g'.col : Int))).drew = W6 := ⟨_, rfl⟩
            have HN6 : Hid (One w W6 G' L' M' R' C' g' Q13 A' cap') := by unfold Hid; rw [← hW6]; exact HN0.out.drew
            rw [hW6]
            clear hW6 n0 n1 n2 ln m0 m1 m2 lm hmf
            obtain ⟨x0, x1, x2, lx⟩ := cells3 HN6.out.p.q
            go_wp2_with fail
            refine (lgsame_yes HN6.out.p.grd HN6.out.p.ok A' cap' HN6.out.p.lns).mono ?_
            rintro e k2 ⟨rfl, hb⟩
            have HN7 := hide (HN6.out.later hb)
            clear hb x0 x1 x2 lx
            obtain ⟨x0, x1, x2, lx⟩ := cells3 HN7.out.p.q
            go_wp2_with fail
            refine (gright_yes HN7.out.p.grd HN7.out.p.ok HN7.out.sp).mono ?_
            rintro e k3 ⟨rfl, hb⟩
            have HN8 := hide (HN7.out.later hb)
            clear hb x0 x1 x2 lx
            obtain ⟨x0, x1, x2, lx⟩ := cells3 HN8.out.p.q
            go_wp2_with fail
            refine (rgright_yes A' R' C' cap' g' k3 HN8.out.p.lns HN8.out.p.ok).mono ?_
            rintro e k4 ⟨rfl, hb⟩
            have HN9 := hide (HN8.out.later hb)
            clear hb x0 x1 x2 lx
            go_wp2
            go_roundw
            case rel => exact ⟨k + 1, _, _, _, _, _, _, _, _, hlt, by go_num, by rfl, HN9.out⟩
            case measure => simp [intOf]; omega
        · obtain ⟨⟨⟨cx, cm, cy, cd, ⟨cf, cz, cb⟩⟩, okv⟩, hat⟩ : ∃ q, atC g R C r c = q := ⟨_, rfl⟩
          obtain ⟨hcx, hcm, hcy, -⟩ := atC_ok HX1.out.p.ok hat
          have HAT := hide hat
          have HC0 := hide (HX1.out.p.ok.each 0 HX1.out.p.ok.r1).1
          have hC2 := HX1.out.p.ok.c2
          have eC := eqlC
          have eq1 := eqC_self cx cm cy (cd : Int) (cf : Int) (cz : Int) (cb : Int)
          clear hat
          go_wp2_with fail
          refine (gat_any HX1.out.p.grd hC2 r c cx cm cy cd cf cz cb okv HAT.out).mono ?_
          rintro e v1 ⟨rfl, hb⟩
          obtain ⟨Q18, hQ18⟩ : ∃ Q18, v1.heap.size = Q18 := ⟨_, rfl⟩
          obtain ⟨V1, hV1⟩ : ∃ V1, v1.alloc (.cells #[.int .i32 cx, .int .i32 cm, .int .i32 cy, .int .u8 (cd : Int), .int .u8 (cf : Int), .int .u8 (cz : Int), .int .u8 (cb : Int)] 40) = V1 := ⟨_, rfl⟩
          have hbv : Below wr.heap.size wr V1 := by rw [← hV1]; exact hb.alloc hb.size _
          have HC18a : Hid (Whole V1 Q18 40 [.int .i32 cx, .int .i32 cm, .int .i32 cy, .int .u8 (cd : Int), .int .u8 (cf : Int), .int .u8 (cz : Int), .int .u8 (cb : Int)]) := by unfold Hid; rw [← hV1, ← hQ18]; exact Whole.new v1 40 [.int .i32 cx, .int .i32 cm, .int .i32 cy, .int .u8 (cd : Int), .int .u8 (cf : Int), .int .u8 (cz : Int), .int .u8 (cb : Int)]
          have HDv := hide (HX1.out.later hb)
          have HD := hide (HX1.out.later hbv)
          have HV1 := hide hV1
          have HQ18 := hide hQ18
          clear hb hbv hV1 hQ18
          obtain ⟨x0, x1, x2, lx⟩ := cells3 HDv.out.p.q
          go_wp2_with fail
          rw [HV1.out]
          refine (rgat_any A R C cap g V1 HD.out.p.lns HD.out.p.ok r c cx cm cy cd cf cz cb okv HAT.out).mono ?_
          rintro e v2 ⟨rfl, hb⟩
          obtain ⟨Q20, hQ20⟩ : ∃ Q20, v2.heap.size = Q20 := ⟨_, rfl⟩
          obtain ⟨V2, hV2⟩ : ∃ V2, v2.alloc (.cells #[.int .i64 cx, .int .i64 cm, .int .i64 cy, .int .u8 (cd : Int), .int .u8 (cf : Int), .int .u8 (cz : Int), .int .u8 (cb : Int)] 52) = V2 := ⟨_, rfl⟩
          have hbv : Below V1.heap.size V1 V2 := by rw [← hV2]; exact hb.alloc hb.size _
          have HC20 : Hid (Whole V2 Q20 52 [.int .i64 cx, .int .i64 cm, .int .i64 cy, .int .u8 (cd : Int), .int .u8 (cf : Int), .int .u8 (cz : Int), .int .u8 (cb : Int)]) := by unfold Hid; rw [← hV2, ← hQ20]; exact Whole.new v2 52 [.int .i64 cx, .int .i64 cm, .int .i64 cy, .int .u8 (cd : Int), .int .u8 (cf : Int), .int .u8 (cz : Int), .int .u8 (cb : Int)]
          have HE := hide (HD.out.later hbv)
          have HC18 := hide (HC18a.out.later hbv)
          have HV2 := hide hV2
          have HQ20 := hide hQ20
          clear hb hbv hV2 hQ20 x0 x1 x2 lx
          by_cases hrr : hasG R r
          · have HNL : Hid ((lAt g.ls r.toNat).length = C) := by unfold Hid; exact (HE.out.p.ok.each _ (by unfold hasG at hrr; omega)).1
            have HHas : Hid (decide (hasG R r) = true) := by unfold Hid; simpa using hrr
            go_wp2
            rw [HV2.out, HQ20.out, HQ18.out]
            refine wp_region_chainL (fun w' => Below V2.heap.size V2 w') 25 [(1, 0), (1, 1), (0, 2), (0, 4), (1, 3), (1, 5), (1, 6), (1, 7), (2, 8), (1, 9), (1, 10), (1, 11), (1, 12), (2, 13), (2, 14), (2, 18), (0, 17), (0, 20), (1, 15), (2, 16), (1, 19), (1, 21), (1, 22), (1, 23), (1, 24), (3, 25)] (by kernel_rfl) (by kernel_rfl) (by kernel_rfl) (fun _ _ _ _ _ h => h) ?_ ?_
            · exact (Below.refl _ _).drewN 1
            refine chainL_alone (by simp only [List.getElem?_toArray, List.getElem?_cons_zero]; rfl) ?_
            intro K hK
            go_wp2_with fail
            refine (gknown_any _ HE.out.drew.sp).mono ?_
            rintro e k1 ⟨rfl, hb⟩
            have B1 : Below V2.heap.size V2 k1 := ((Below.refl V2.heap.size V2).drewN 1).trans hb
            clear hb
            go_wp2
            refine hK.out _ _ (B1) ?_
            clear hK K
            refine chainL_alone (by simp only [List.getElem?_toArray, List.getElem?_cons_zero, List.getElem?_cons_succ]; rfl) ?_
            intro K hK
            go_wp2
            refine hK.out _ _ (B1) ?_
            clear hK K
            refine chainL_take (v := ?_) (by simp only [List.getElem?_toArray, List.getElem?_cons_zero, List.getElem?_cons_succ]; rfl) (by rfl) (fun w hS => ?_) ?_
            rotate_left
            · obtain ⟨d0, d1, d2, d3, d4, d5, d6, -⟩ := cells7 (HC18.out.later hS); go_simp <;> with_reducible rfl
            simp only [Act.put, List.setIfInBounds_toArray, List.set_cons_zero, List.set_cons_succ]
            refine chainL_take (v := ?_) (by simp only [List.getElem?_toArray, List.getElem?_cons_zero, List.getElem?_cons_succ]; rfl) (by rfl) (fun w hS => ?_) ?_
            rotate_left
            · obtain ⟨d0, d1, d2, d3, d4, d5, d6, -⟩ := cells7 (HC20.out.later hS); go_simp <;> with_reducible rfl
            simp only [Act.put, List.setIfInBounds_toArray, List.set_cons_zero, List.set_cons_succ]
            refine chainL_alone (by simp only [List.getElem?_toArray, List.getElem?_cons_zero, List.getElem?_cons_succ]; rfl) ?_
            intro K hK
            go_wp2_with fail
            refine (lof_v cx cm cy cd cf cz cb hcx hcm hcy k1).mono ?_
            rintro e k2 ⟨rfl, hb⟩
            have B2 : Below V2.heap.size V2 k2 := B1.trans (hb.mono B1.size)
            clear hb
            go_wp2
            refine hK.out _ _ (B2) ?_
            clear hK K
            refine chainL_alone (by simp only [List.getElem?_toArray, List.getElem?_cons_zero, List.getElem?_cons_succ]; rfl) ?_
            intro K hK
            go_wp2
            refine hK.out _ _ (B2) ?_
            clear hK K
            refine chainL_alone (by simp only [List.getElem?_toArray, List.getElem?_cons_zero, List.getElem?_cons_succ]; rfl) ?_
            intro K hK
            go_wp2
            refine hK.out _ _ (B2) ?_
            clear hK K
            refine chainL_alone (by simp only [List.getElem?_toArray, List.getElem?_cons_zero, List.getElem?_cons_succ]; rfl) ?_
            intro K hK
            go_wp2
            refine hK.out _ _ (B2) ?_
            clear hK K
            refine chainL_pure (v := ?_) (by simp only [List.getElem?_toArray, List.getElem?_cons_zero, List.getElem?_cons_succ]; rfl) (by rfl) (fun w => ?_) ?_
            rotate_left
            · go_simp <;> with_reducible rfl
            simp only [Act.put, List.setIfInBounds_toArray, List.set_cons_zero, List.set_cons_succ]
            refine chainL_alone (by simp only [List.getElem?_toArray, List.getElem?_cons_zero, List.getElem?_cons_succ]; rfl) ?_
            intro K hK
            go_wp2
            refine hK.out _ _ (B2) ?_
            clear hK K
            refine chainL_alone (by simp only [List.getElem?_toArray, List.getElem?_cons_zero, List.getElem?_cons_succ]; rfl) ?_
            intro K hK
            go_wp2
            refine hK.out _ _ (B2) ?_
            clear hK K
            refine chainL_alone (by simp only [List.getElem?_toArray, List.getElem?_cons_zero, List.getElem?_cons_succ]; rfl) ?_
            intro K hK
            go_wp2
            refine hK.out _ _ (B2) ?_
            clear hK K
            refine chainL_alone (by simp only [List.getElem?_toArray, List.getElem?_cons_zero, List.getElem?_cons_succ]; rfl) ?_
            intro K hK
            go_wp2
            refine hK.out _ _ (B2) ?_
            clear hK K
            refine chainL_pure (v := ?_) (by simp only [List.getElem?_toArray, List.getElem?_cons_zero, List.getElem?_cons_succ]; rfl) (by rfl) (fun w => ?_) ?_
            rotate_left
            · go_simp <;> with_reducible rfl
            simp only [Act.put, List.setIfInBounds_toArray, List.set_cons_zero, List.set_cons_succ]
            refine chainL_pure (v := ?_) (by simp only [List.getElem?_toArray, List.getElem?_cons_zero, List.getElem?_cons_succ]; rfl) (by rfl) (fun w => ?_) ?_
            rotate_left
            · go_simp <;> with_reducible rfl
            simp only [Act.put, List.setIfInBounds_toArray, List.set_cons_zero, List.set_cons_succ]
            refine chainL_pure (v := ?_) (by simp only [List.getElem?_toArray, List.getElem?_cons_zero, List.getElem?_cons_succ]; rfl) (by rfl) (fun w => ?_) ?_
            rotate_left
            · go_simp <;> with_reducible rfl
            simp only [Act.put, List.setIfInBounds_toArray, List.set_cons_zero, List.set_cons_succ]
            refine chainL_take (v := ?_) (by simp only [List.getElem?_toArray, List.getElem?_cons_zero, List.getElem?_cons_succ]; rfl) (by rfl) (fun w hS => ?_) ?_
            rotate_left
            · obtain ⟨d0, d1, d2, -⟩ := cells3 (HE.out.p.q.later hS); go_simp <;> with_reducible rfl
            simp only [Act.put, List.setIfInBounds_toArray, List.set_cons_zero, List.set_cons_succ]
            refine chainL_take (v := ?_) (by simp only [List.getElem?_toArray, List.getElem?_cons_zero, List.getElem?_cons_succ]; rfl) (by rfl) (fun w hS => ?_) ?_
            rotate_left
            · obtain ⟨d0, d1, d2, -⟩ := cells3 (HE.out.p.q.later hS); go_simp <;> with_reducible rfl
            simp only [Act.put, List.setIfInBounds_toArray, List.set_cons_zero, List.set_cons_succ]
            refine chainL_alone (by simp only [List.getElem?_toArray, List.getElem?_cons_zero, List.getElem?_cons_succ]; rfl) ?_
            intro K hK
            go_wp2_with fail
            refine (gline_any (HE.out.p.grd.later B2) r hrr (by omega)).mono ?_
            rintro e k3 ⟨v3, rfl, hown⟩
            obtain ⟨A3, c3, rfl, -⟩ := hown.form
            have B3 : Below V2.heap.size V2 k3 := B2.trans (hown.bel.mono B2.size)
            rw [HNL.out]
            clear hown
            go_wp2
            refine hK.out _ _ (B3) ?_
            clear hK K
            refine chainL_pure (v := ?_) (by simp only [List.getElem?_toArray, List.getElem?_cons_zero, List.getElem?_cons_succ]; rfl) (by rfl) (fun w => ?_) ?_
            rotate_left
            · go_simp <;> with_reducible rfl
            simp only [Act.put, List.setIfInBounds_toArray, List.set_cons_zero, List.set_cons_succ]
            refine chainL_alone (by simp only [List.getElem?_toArray, List.getElem?_cons_zero, List.getElem?_cons_succ]; rfl) ?_
            intro K hK
            go_wp2_with fail
            refine (rhas_any A R cap g.row g.col r _).mono ?_
            rintro e k4 ⟨rfl, hb⟩
            rw [HHas.out]
            have B4 : Below V2.heap.size V2 k4 := B3.trans (hb.mono B3.size)
            clear hb
            go_wp2
            refine hK.out _ _ (B4) ?_
            clear hK K
            refine chainL_alone (by simp only [List.getElem?_toArray, List.getElem?_cons_zero, List.getElem?_cons_succ]; rfl) ?_
            intro K hK
            go_wp2_with fail
            refine (rgcols_any A R cap C g.row g.col g.ls k4 (HE.out.p.lns.below B4) HE.out.p.ok.len HE.out.p.ok.r1 HC0.out).mono ?_
            rintro e k5 ⟨rfl, hb⟩
            have B5 : Below V2.heap.size V2 k5 := B4.trans (hb.mono B4.size)
            clear hb
            go_wp2
            refine hK.out _ _ (B5) ?_
            clear hK K
            refine chainL_alone (by simp only [List.getElem?_toArray, List.getElem?_cons_zero, List.getElem?_cons_succ]; rfl) ?_
            intro K hK
            go_wp2_with fail
            refine (count_any true (C : Int) k5).mono ?_
            rintro e k6 ⟨rfl, rfl⟩
            go_wp2
            refine hK.out _ _ (B5) ?_
            clear hK K
            refine chainL_alone (by simp only [List.getElem?_toArray, List.getElem?_cons_zero, List.getElem?_cons_succ]; rfl) ?_
            intro K hK
            go_wp2
            refine hK.out _ _ (B5) ?_
            clear hK K
            refine chainL_alone (by simp only [List.getElem?_toArray, List.getElem?_cons_zero, List.getElem?_cons_succ]; rfl) ?_
            intro K hK
            go_wp2
            refine hK.out _ _ (B5) ?_
            clear hK K
            refine chainL_late (by simp only [List.getElem?_toArray, List.getElem?_cons_zero, List.getElem?_cons_succ]; rfl) ?_
            intro K hK
            go_wp2
            refine hK.out _ _ ?_
            clear hK K
            refine chainL_nil ?_
            have HBZ := hide (HE.out.bel.trans (B5.mono HE.out.bel.size))
            clear B1 B2 B3 B4 B5
            go_wp2
            go_ret
            exact ⟨rfl, HBZ.out⟩
          · have HHas : Hid (decide (hasG R r) = false) := by unfold Hid; simpa using hrr
            go_wp2
            rw [HV2.out, HQ20.out, HQ18.out]
            refine wp_region_chainL (fun w' => Below V2.heap.size V2 w') 25 [(1, 0), (1, 1), (0, 2), (0, 4), (1, 3), (1, 5), (1, 6), (1, 7), (2, 8), (1, 9), (1, 10), (1, 11), (1, 12), (2, 13), (2, 14), (2, 18), (0, 17), (0, 20), (1, 15), (2, 16), (1, 19), (1, 21), (1, 22), (1, 23), (1, 24), (3, 25)] (by kernel_rfl) (by kernel_rfl) (by kernel_rfl) (fun _ _ _ _ _ h => h) ?_ ?_
            · exact (Below.refl _ _).drewN 1
            refine chainL_alone (by simp only [List.getElem?_toArray, List.getElem?_cons_zero]; rfl) ?_
            intro K hK
            go_wp2_with fail
            refine (gknown_any _ HE.out.drew.sp).mono ?_
            rintro e k1 ⟨rfl, hb⟩
            have B1 : Below V2.heap.size V2 k1 := ((Below.refl V2.heap.size V2).drewN 1).trans hb
            clear hb
            go_wp2
            refine hK.out _ _ (B1) ?_
            clear hK K
            refine chainL_alone (by simp only [List.getElem?_toArray, List.getElem?_cons_zero, List.getElem?_cons_succ]; rfl) ?_
            intro K hK
            go_wp2
            refine hK.out _ _ (B1) ?_
            clear hK K
            refine chainL_take (v := ?_) (by simp only [List.getElem?_toArray, List.getElem?_cons_zero, List.getElem?_cons_succ]; rfl) (by rfl) (fun w hS => ?_) ?_
            rotate_left
            · obtain ⟨d0, d1, d2, d3, d4, d5, d6, -⟩ := cells7 (HC18.out.later hS); go_simp <;> with_reducible rfl
            simp only [Act.put, List.setIfInBounds_toArray, List.set_cons_zero, List.set_cons_succ]
            refine chainL_take (v := ?_) (by simp only [List.getElem?_toArray, List.getElem?_cons_zero, List.getElem?_cons_succ]; rfl) (by rfl) (fun w hS => ?_) ?_
            rotate_left
            · obtain ⟨d0, d1, d2, d3, d4, d5, d6, -⟩ := cells7 (HC20.out.later hS); go_simp <;> with_reducible rfl
            simp only [Act.put, List.setIfInBounds_toArray, List.set_cons_zero, List.set_cons_succ]
            refine chainL_alone (by simp only [List.getElem?_toArray, List.getElem?_cons_zero, List.getElem?_cons_succ]; rfl) ?_
            intro K hK
            go_wp2_with fail
            refine (lof_v cx cm cy cd cf cz cb hcx hcm hcy k1).mono ?_
            rintro e k2 ⟨rfl, hb⟩
            have B2 : Below V2.heap.size V2 k2 := B1.trans (hb.mono B1.size)
            clear hb
            go_wp2
            refine hK.out _ _ (B2) ?_
            clear hK K
            refine chainL_alone (by simp only [List.getElem?_toArray, List.getElem?_cons_zero, List.getElem?_cons_succ]; rfl) ?_
            intro K hK
            go_wp2
            refine hK.out _ _ (B2) ?_
            clear hK K
            refine chainL_alone (by simp only [List.getElem?_toArray, List.getElem?_cons_zero, List.getElem?_cons_succ]; rfl) ?_
            intro K hK
            go_wp2
            refine hK.out _ _ (B2) ?_
            clear hK K
            refine chainL_alone (by simp only [List.getElem?_toArray, List.getElem?_cons_zero, List.getElem?_cons_succ]; rfl) ?_
            intro K hK
            go_wp2
            refine hK.out _ _ (B2) ?_
            clear hK K
            refine chainL_pure (v := ?_) (by simp only [List.getElem?_toArray, List.getElem?_cons_zero, List.getElem?_cons_succ]; rfl) (by rfl) (fun w => ?_) ?_
            rotate_left
            · go_simp <;> with_reducible rfl
            simp only [Act.put, List.setIfInBounds_toArray, List.set_cons_zero, List.set_cons_succ]
            refine chainL_alone (by simp only [List.getElem?_toArray, List.getElem?_cons_zero, List.getElem?_cons_succ]; rfl) ?_
            intro K hK
            go_wp2
            refine hK.out _ _ (B2) ?_
            clear hK K
            refine chainL_alone (by simp only [List.getElem?_toArray, List.getElem?_cons_zero, List.getElem?_cons_succ]; rfl) ?_
            intro K hK
            go_wp2
            refine hK.out _ _ (B2) ?_
            clear hK K
            refine chainL_alone (by simp only [List.getElem?_toArray, List.getElem?_cons_zero, List.getElem?_cons_succ]; rfl) ?_
            intro K hK
            go_wp2
            refine hK.out _ _ (B2) ?_
            clear hK K
            refine chainL_alone (by simp only [List.getElem?_toArray, List.getElem?_cons_zero, List.getElem?_cons_succ]; rfl) ?_
            intro K hK
            go_wp2
            refine hK.out _ _ (B2) ?_
            clear hK K
            refine chainL_pure (v := ?_) (by simp only [List.getElem?_toArray, List.getElem?_cons_zero, List.getElem?_cons_succ]; rfl) (by rfl) (fun w => ?_) ?_
            rotate_left
            · go_simp <;> with_reducible rfl
            simp only [Act.put, List.setIfInBounds_toArray, List.set_cons_zero, List.set_cons_succ]
            refine chainL_pure (v := ?_) (by simp only [List.getElem?_toArray, List.getElem?_cons_zero, List.getElem?_cons_succ]; rfl) (by rfl) (fun w => ?_) ?_
            rotate_left
            · go_simp <;> with_reducible rfl
            simp only [Act.put, List.setIfInBounds_toArray, List.set_cons_zero, List.set_cons_succ]
            refine chainL_pure (v := ?_) (by simp only [List.getElem?_toArray, List.getElem?_cons_zero, List.getElem?_cons_succ]; rfl) (by rfl) (fun w => ?_) ?_
            rotate_left
            · go_simp <;> with_reducible rfl
            simp only [Act.put, List.setIfInBounds_toArray, List.set_cons_zero, List.set_cons_succ]
            refine chainL_take (v := ?_) (by simp only [List.getElem?_toArray, List.getElem?_cons_zero, List.getElem?_cons_succ]; rfl) (by rfl) (fun w hS => ?_) ?_
            rotate_left
            · obtain ⟨d0, d1, d2, -⟩ := cells3 (HE.out.p.q.later hS); go_simp <;> with_reducible rfl
            simp only [Act.put, List.setIfInBounds_toArray, List.set_cons_zero, List.set_cons_succ]
            refine chainL_take (v := ?_) (by simp only [List.getElem?_toArray, List.getElem?_cons_zero, List.getElem?_cons_succ]; rfl) (by rfl) (fun w hS => ?_) ?_
            rotate_left
            · obtain ⟨d0, d1, d2, -⟩ := cells3 (HE.out.p.q.later hS); go_simp <;> with_reducible rfl
            simp only [Act.put, List.setIfInBounds_toArray, List.set_cons_zero, List.set_cons_succ]
            refine chainL_alone (by simp only [List.getElem?_toArray, List.getElem?_cons_zero, List.getElem?_cons_succ]; rfl) ?_
            intro K hK
            go_wp2_with fail
            refine (gline_no (HE.out.p.grd.later B2) r hrr).mono ?_
            rintro e k3 ⟨rfl, rfl⟩
            have B3 := B2
            go_wp2
            refine hK.out _ _ (B3) ?_
            clear hK K
            refine chainL_pure (v := ?_) (by simp only [List.getElem?_toArray, List.getElem?_cons_zero, List.getElem?_cons_succ]; rfl) (by rfl) (fun w => ?_) ?_
            rotate_left
            · go_simp <;> with_reducible rfl
            simp only [Act.put, List.setIfInBounds_toArray, List.set_cons_zero, List.set_cons_succ]
            refine chainL_alone (by simp only [List.getElem?_toArray, List.getElem?_cons_zero, List.getElem?_cons_succ]; rfl) ?_
            intro K hK
            go_wp2_with fail
            refine (rhas_any A R cap g.row g.col r _).mono ?_
            rintro e k4 ⟨rfl, hb⟩
            rw [HHas.out]
            have B4 : Below V2.heap.size V2 k4 := B3.trans (hb.mono B3.size)
            clear hb
            go_wp2
            refine hK.out _ _ (B4) ?_
            clear hK K
            refine chainL_alone (by simp only [List.getElem?_toArray, List.getElem?_cons_zero, List.getElem?_cons_succ]; rfl) ?_
            intro K hK
            go_wp2_with fail
            refine (rgcols_any A R cap C g.row g.col g.ls k4 (HE.out.p.lns.below B4) HE.out.p.ok.len HE.out.p.ok.r1 HC0.out).mono ?_
            rintro e k5 ⟨rfl, hb⟩
            have B5 : Below V2.heap.size V2 k5 := B4.trans (hb.mono B4.size)
            clear hb
            go_wp2
            refine hK.out _ _ (B5) ?_
            clear hK K
            refine chainL_alone (by simp only [List.getElem?_toArray, List.getElem?_cons_zero, List.getElem?_cons_succ]; rfl) ?_
            intro K hK
            go_wp2_with fail
            refine (count_any false (C : Int) k5).mono ?_
            rintro e k6 ⟨rfl, rfl⟩
            go_wp2
            refine hK.out _ _ (B5) ?_
            clear hK K
            refine chainL_alone (by simp only [List.getElem?_toArray, List.getElem?_cons_zero, List.getElem?_cons_succ]; rfl) ?_
            intro K hK
            go_wp2
            refine hK.out _ _ (B5) ?_
            clear hK K
            refine chainL_alone (by simp only [List.getElem?_toArray, List.getElem?_cons_zero, List.getElem?_cons_succ]; rfl) ?_
            intro K hK
            go_wp2
            refine hK.out _ _ (B5) ?_
            clear hK K
            refine chainL_late (by simp only [List.getElem?_toArray, List.getElem?_cons_zero, List.getElem?_cons_succ]; rfl) ?_
            intro K hK
            go_wp2
            refine hK.out _ _ ?_
            clear hK K
            refine chainL_nil ?_
            have HBZ := hide (HE.out.bel.trans (B5.mono HE.out.bel.size))
            clear B1 B2 B3 B4 B5
            go_wp2
            go_ret
            exact ⟨rfl, HBZ.out⟩
      · obtain ⟨⟨⟨cx, cm, cy, cd, ⟨cf, cz, cb⟩⟩, okv⟩, hat⟩ : ∃ q, atC g R C r c = q := ⟨_, rfl⟩
        obtain ⟨hcx, hcm, hcy, -⟩ := atC_ok HX1.out.p.ok hat
        have HAT := hide hat
        have HC0 := hide (HX1.out.p.ok.each 0 HX1.out.p.ok.r1).1
        have hC2 := HX1.out.p.ok.c2
        have eC := eqlC
        have eq1 := eqC_self cx cm cy (cd : Int) (cf : Int) (cz : Int) (cb : Int)
        clear hat
        go_wp2_with fail
        refine (gat_any HX1.out.p.grd hC2 r c cx cm cy cd cf cz cb okv HAT.out).mono ?_
        rintro e v1 ⟨rfl, hb⟩
        obtain ⟨Q18, hQ18⟩ : ∃ Q18, v1.heap.size = Q18 := ⟨_, rfl⟩
        obtain ⟨V1, hV1⟩ : ∃ V1, v1.alloc (.cells #[.int .i32 cx, .int .i32 cm, .int .i32 cy, .int .u8 (cd : Int), .int .u8 (cf : Int), .int .u8 (cz : Int), .int .u8 (cb : Int)] 40) = V1 := ⟨_, rfl⟩
        have hbv : Below wr.heap.size wr V1 := by rw [← hV1]; exact hb.alloc hb.size _
        have HC18a : Hid (Whole V1 Q18 40 [.int .i32 cx, .int .i32 cm, .int .i32 cy, .int .u8 (cd : Int), .int .u8 (cf : Int), .int .u8 (cz : Int), .int .u8 (cb : Int)]) := by unfold Hid; rw [← hV1, ← hQ18]; exact Whole.new v1 40 [.int .i32 cx, .int .i32 cm, .int .i32 cy, .int .u8 (cd : Int), .int .u8 (cf : Int), .int .u8 (cz : Int), .int .u8 (cb : Int)]
        have HDv := hide (HX1.out.later hb)
        have HD := hide (HX1.out.later hbv)
        have HV1 := hide hV1
        have HQ18 := hide hQ18
        clear hb hbv hV1 hQ18
        obtain ⟨x0, x1, x2, lx⟩ := cells3 HDv.out.p.q
        go_wp2_with fail
        rw [HV1.out]
        refine (rgat_any A R C cap g V1 HD.out.p.lns HD.out.p.ok r c cx cm cy cd cf cz cb okv HAT.out).mono ?_
        rintro e v2 ⟨rfl, hb⟩
        obtain ⟨Q20, hQ20⟩ : ∃ Q20, v2.heap.size = Q20 := ⟨_, rfl⟩
        obtain ⟨V2, hV2⟩ : ∃ V2, v2.alloc (.cells #[.int .i64 cx, .int .i64 cm, .int .i64 cy, .int .u8 (cd : Int), .int .u8 (cf : Int), .int .u8 (cz : Int), .int .u8 (cb : Int)] 52) = V2 := ⟨_, rfl⟩
        have hbv : Below V1.heap.size V1 V2 := by rw [← hV2]; exact hb.alloc hb.size _
        have HC20 : Hid (Whole V2 Q20 52 [.int .i64 cx, .int .i64 cm, .int .i64 cy, .int .u8 (cd : Int), .int .u8 (cf : Int), .int .u8 (cz : Int), .int .u8 (cb : Int)]) := by unfold Hid; rw [← hV2, ← hQ20]; exact Whole.new v2 52 [.int .i64 cx, .int .i64 cm, .int .i64 cy, .int .u8 (cd : Int), .int .u8 (cf : Int), .int .u8 (cz : Int), .int .u8 (cb : Int)]
        have HE := hide (HD.out.later hbv)
        have HC18 := hide (HC18a.out.later hbv)
        have HV2 := hide hV2
        have HQ20 := hide hQ20
        clear hb hbv hV2 hQ20 x0 x1 x2 lx
        by_cases hrr : hasG R r
        · have HNL : Hid ((lAt g.ls r.toNat).length = C) := by unfold Hid; exact (HE.out.p.ok.each _ (by unfold hasG at hrr; omega)).1
          have HHas : Hid (decide (hasG R r) = true) := by unfold Hid; simpa using hrr
          go_wp2
          rw [HV2.out, HQ20.out, HQ18.out]
          refine wp_region_chainL (fun w' => Below V2.heap.size V2 w') 25 [(1, 0), (1, 1), (0, 2), (0, 4), (1, 3), (1, 5), (1, 6), (1, 7), (2, 8), (1, 9), (1, 10), (1, 11), (1, 12), (2, 13), (2, 14), (2, 18), (0, 17), (0, 20), (1, 15), (2, 16), (1, 19), (1, 21), (1, 22), (1, 23), (1, 24), (3, 25)] (by kernel_rfl) (by kernel_rfl) (by kernel_rfl) (fun _ _ _ _ _ h => h) ?_ ?_
          · exact (Below.refl _ _).drewN 1
          refine chainL_alone (by simp only [List.getElem?_toArray, List.getElem?_cons_zero]; rfl) ?_
          intro K hK
          go_wp2_with fail
          refine (gknown_any _ HE.out.drew.sp).mono ?_
          rintro e k1 ⟨rfl, hb⟩
          have B1 : Below V2.heap.size V2 k1 := ((Below.refl V2.heap.size V2).drewN 1).trans hb
          clear hb
          go_wp2
          refine hK.out _ _ (B1) ?_
          clear hK K
          refine chainL_alone (by simp only [List.getElem?_toArray, List.getElem?_cons_zero, List.getElem?_cons_succ]; rfl) ?_
          intro K hK
          go_wp2
          refine hK.out _ _ (B1) ?_
          clear hK K
          refine chainL_take (v := ?_) (by simp only [List.getElem?_toArray, List.getElem?_cons_zero, List.getElem?_cons_succ]; rfl) (by rfl) (fun w hS => ?_) ?_
          rotate_left
          · obtain ⟨d0, d1, d2, d3, d4, d5, d6, -⟩ := cells7 (HC18.out.later hS); go_simp <;> with_reducible rfl
          simp only [Act.put, List.setIfInBounds_toArray, List.set_cons_zero, List.set_cons_succ]
          refine chainL_take (v := ?_) (by simp only [List.getElem?_toArray, List.getElem?_cons_zero, List.getElem?_cons_succ]; rfl) (by rfl) (fun w hS => ?_) ?_
          rotate_left
          · obtain ⟨d0, d1, d2, d3, d4, d5, d6, -⟩ := cells7 (HC20.out.later hS); go_simp <;> with_reducible rfl
          simp only [Act.put, List.setIfInBounds_toArray, List.set_cons_zero, List.set_cons_succ]
          refine chainL_alone (by simp only [List.getElem?_toArray, List.getElem?_cons_zero, List.getElem?_cons_succ]; rfl) ?_
          intro K hK
          go_wp2_with fail
          refine (lof_v cx cm cy cd cf cz cb hcx hcm hcy k1).mono ?_
          rintro e k2 ⟨rfl, hb⟩
          have B2 : Below V2.heap.size V2 k2 := B1.trans (hb.mono B1.size)
          clear hb
          go_wp2
          refine hK.out _ _ (B2) ?_
          clear hK K
          refine chainL_alone (by simp only [List.getElem?_toArray, List.getElem?_cons_zero, List.getElem?_cons_succ]; rfl) ?_
          intro K hK
          go_wp2
          refine hK.out _ _ (B2) ?_
          clear hK K
          refine chainL_alone (by simp only [List.getElem?_toArray, List.getElem?_cons_zero, List.getElem?_cons_succ]; rfl) ?_
          intro K hK
          go_wp2
          refine hK.out _ _ (B2) ?_
          clear hK K
          refine chainL_alone (by simp only [List.getElem?_toArray, List.getElem?_cons_zero, List.getElem?_cons_succ]; rfl) ?_
          intro K hK
          go_wp2
          refine hK.out _ _ (B2) ?_
          clear hK K
          refine chainL_pure (v := ?_) (by simp only [List.getElem?_toArray, List.getElem?_cons_zero, List.getElem?_cons_succ]; rfl) (by rfl) (fun w => ?_) ?_
          rotate_left
          · go_simp <;> with_reducible rfl
          simp only [Act.put, List.setIfInBounds_toArray, List.set_cons_zero, List.set_cons_succ]
          refine chainL_alone (by simp only [List.getElem?_toArray, List.getElem?_cons_zero, List.getElem?_cons_succ]; rfl) ?_
          intro K hK
          go_wp2
          refine hK.out _ _ (B2) ?_
          clear hK K
          refine chainL_alone (by simp only [List.getElem?_toArray, List.getElem?_cons_zero, List.getElem?_cons_succ]; rfl) ?_
          intro K hK
          go_wp2
          refine hK.out _ _ (B2) ?_
          clear hK K
          refine chainL_alone (by simp only [List.getElem?_toArray, List.getElem?_cons_zero, List.getElem?_cons_succ]; rfl) ?_
          intro K hK
          go_wp2
          refine hK.out _ _ (B2) ?_
          clear hK K
          refine chainL_alone (by simp only [List.getElem?_toArray, List.getElem?_cons_zero, List.getElem?_cons_succ]; rfl) ?_
          intro K hK
          go_wp2
          refine hK.out _ _ (B2) ?_
          clear hK K
          refine chainL_pure (v := ?_) (by simp only [List.getElem?_toArray, List.getElem?_cons_zero, List.getElem?_cons_succ]; rfl) (by rfl) (fun w => ?_) ?_
          rotate_left
          · go_simp <;> with_reducible rfl
          simp only [Act.put, List.setIfInBounds_toArray, List.set_cons_zero, List.set_cons_succ]
          refine chainL_pure (v := ?_) (by simp only [List.getElem?_toArray, List.getElem?_cons_zero, List.getElem?_cons_succ]; rfl) (by rfl) (fun w => ?_) ?_
          rotate_left
          · go_simp <;> with_reducible rfl
          simp only [Act.put, List.setIfInBounds_toArray, List.set_cons_zero, List.set_cons_succ]
          refine chainL_pure (v := ?_) (by simp only [List.getElem?_toArray, List.getElem?_cons_zero, List.getElem?_cons_succ]; rfl) (by rfl) (fun w => ?_) ?_
          rotate_left
          · go_simp <;> with_reducible rfl
          simp only [Act.put, List.setIfInBounds_toArray, List.set_cons_zero, List.set_cons_succ]
          refine chainL_take (v := ?_) (by simp only [List.getElem?_toArray, List.getElem?_cons_zero, List.getElem?_cons_succ]; rfl) (by rfl) (fun w hS => ?_) ?_
          rotate_left
          · obtain ⟨d0, d1, d2, -⟩ := cells3 (HE.out.p.q.later hS); go_simp <;> with_reducible rfl
          simp only [Act.put, List.setIfInBounds_toArray, List.set_cons_zero, List.set_cons_succ]
          refine chainL_take (v := ?_) (by simp only [List.getElem?_toArray, List.getElem?_cons_zero, List.getElem?_cons_succ]; rfl) (by rfl) (fun w hS => ?_) ?_
          rotate_left
          · obtain ⟨d0, d1, d2, -⟩ := cells3 (HE.out.p.q.later hS); go_simp <;> with_reducible rfl
          simp only [Act.put, List.setIfInBounds_toArray, List.set_cons_zero, List.set_cons_succ]
          refine chainL_alone (by simp only [List.getElem?_toArray, List.getElem?_cons_zero, List.getElem?_cons_succ]; rfl) ?_
          intro K hK
          go_wp2_with fail
          refine (gline_any (HE.out.p.grd.later B2) r hrr (by omega)).mono ?_
          rintro e k3 ⟨v3, rfl, hown⟩
          obtain ⟨A3, c3, rfl, -⟩ := hown.form
          have B3 : Below V2.heap.size V2 k3 := B2.trans (hown.bel.mono B2.size)
          rw [HNL.out]
          clear hown
          go_wp2
          refine hK.out _ _ (B3) ?_
          clear hK K
          refine chainL_pure (v := ?_) (by simp only [List.getElem?_toArray, List.getElem?_cons_zero, List.getElem?_cons_succ]; rfl) (by rfl) (fun w => ?_) ?_
          rotate_left
          · go_simp <;> with_reducible rfl
          simp only [Act.put, List.setIfInBounds_toArray, List.set_cons_zero, List.set_cons_succ]
          refine chainL_alone (by simp only [List.getElem?_toArray, List.getElem?_cons_zero, List.getElem?_cons_succ]; rfl) ?_
          intro K hK
          go_wp2_with fail
          refine (rhas_any A R cap g.row g.col r _).mono ?_
          rintro e k4 ⟨rfl, hb⟩
          rw [HHas.out]
          have B4 : Below V2.heap.size V2 k4 := B3.trans (hb.mono B3.size)
          clear hb
          go_wp2
          refine hK.out _ _ (B4) ?_
          clear hK K
          refine chainL_alone (by simp only [List.getElem?_toArray, List.getElem?_cons_zero, List.getElem?_cons_succ]; rfl) ?_
          intro K hK
          go_wp2_with fail
          refine (rgcols_any A R cap C g.row g.col g.ls k4 (HE.out.p.lns.below B4) HE.out.p.ok.len HE.out.p.ok.r1 HC0.out).mono ?_
          rintro e k5 ⟨rfl, hb⟩
          have B5 : Below V2.heap.size V2 k5 := B4.trans (hb.mono B4.size)
          clear hb
          go_wp2
          refine hK.out _ _ (B5) ?_
          clear hK K
          refine chainL_alone (by simp only [List.getElem?_toArray, List.getElem?_cons_zero, List.getElem?_cons_succ]; rfl) ?_
          intro K hK
          go_wp2_with fail
          refine (count_any true (C : Int) k5).mono ?_
          rintro e k6 ⟨rfl, rfl⟩
          go_wp2
          refine hK.out _ _ (B5) ?_
          clear hK K
          refine chainL_alone (by simp only [List.getElem?_toArray, List.getElem?_cons_zero, List.getElem?_cons_succ]; rfl) ?_
          intro K hK
          go_wp2
          refine hK.out _ _ (B5) ?_
          clear hK K
          refine chainL_alone (by simp only [List.getElem?_toArray, List.getElem?_cons_zero, List.getElem?_cons_succ]; rfl) ?_
          intro K hK
          go_wp2
          refine hK.out _ _ (B5) ?_
          clear hK K
          refine chainL_late (by simp only [List.getElem?_toArray, List.getElem?_cons_zero, List.getElem?_cons_succ]; rfl) ?_
          intro K hK
          go_wp2
          refine hK.out _ _ ?_
          clear hK K
          refine chainL_nil ?_
          have HBZ := hide (HE.out.bel.trans (B5.mono HE.out.bel.size))
          clear B1 B2 B3 B4 B5
          go_wp2
          go_ret
          exact ⟨rfl, HBZ.out⟩
        · have HHas : Hid (decide (hasG R r) = false) := by unfold Hid; simpa using hrr
          go_wp2
          rw [HV2.out, HQ20.out, HQ18.out]
          refine wp_region_chainL (fun w' => Below V2.heap.size V2 w') 25 [(1, 0), (1, 1), (0, 2), (0, 4), (1, 3), (1, 5), (1, 6), (1, 7), (2, 8), (1, 9), (1, 10), (1, 11), (1, 12), (2, 13), (2, 14), (2, 18), (0, 17), (0, 20), (1, 15), (2, 16), (1, 19), (1, 21), (1, 22), (1, 23), (1, 24), (3, 25)] (by kernel_rfl) (by kernel_rfl) (by kernel_rfl) (fun _ _ _ _ _ h => h) ?_ ?_
          · exact (Below.refl _ _).drewN 1
          refine chainL_alone (by simp only [List.getElem?_toArray, List.getElem?_cons_zero]; rfl) ?_
          intro K hK
          go_wp2_with fail
          refine (gknown_any _ HE.out.drew.sp).mono ?_
          rintro e k1 ⟨rfl, hb⟩
          have B1 : Below V2.heap.size V2 k1 := ((Below.refl V2.heap.size V2).drewN 1).trans hb
          clear hb
          go_wp2
          refine hK.out _ _ (B1) ?_
          clear hK K
          refine chainL_alone (by simp only [List.getElem?_toArray, List.getElem?_cons_zero, List.getElem?_cons_succ]; rfl) ?_
          intro K hK
          go_wp2
          refine hK.out _ _ (B1) ?_
          clear hK K
          refine chainL_take (v := ?_) (by simp only [List.getElem?_toArray, List.getElem?_cons_zero, List.getElem?_cons_succ]; rfl) (by rfl) (fun w hS => ?_) ?_
          rotate_left
          · obtain ⟨d0, d1, d2, d3, d4, d5, d6, -⟩ := cells7 (HC18.out.later hS); go_simp <;> with_reducible rfl
          simp only [Act.put, List.setIfInBounds_toArray, List.set_cons_zero, List.set_cons_succ]
          refine chainL_take (v := ?_) (by simp only [List.getElem?_toArray, List.getElem?_cons_zero, List.getElem?_cons_succ]; rfl) (by rfl) (fun w hS => ?_) ?_
          rotate_left
          · obtain ⟨d0, d1, d2, d3, d4, d5, d6, -⟩ := cells7 (HC20.out.later hS); go_simp <;> with_reducible rfl
          simp only [Act.put, List.setIfInBounds_toArray, List.set_cons_zero, List.set_cons_succ]
          refine chainL_alone (by simp only [List.getElem?_toArray, List.getElem?_cons_zero, List.getElem?_cons_succ]; rfl) ?_
          intro K hK
          go_wp2_with fail
          refine (lof_v cx cm cy cd cf cz cb hcx hcm hcy k1).mono ?_
          rintro e k2 ⟨rfl, hb⟩
          have B2 : Below V2.heap.size V2 k2 := B1.trans (hb.mono B1.size)
          clear hb
          go_wp2
          refine hK.out _ _ (B2) ?_
          clear hK K
          refine chainL_alone (by simp only [List.getElem?_toArray, List.getElem?_cons_zero, List.getElem?_cons_succ]; rfl) ?_
          intro K hK
          go_wp2
          refine hK.out _ _ (B2) ?_
          clear hK K
          refine chainL_alone (by simp only [List.getElem?_toArray, List.getElem?_cons_zero, List.getElem?_cons_succ]; rfl) ?_
          intro K hK
          go_wp2
          refine hK.out _ _ (B2) ?_
          clear hK K
          refine chainL_alone (by simp only [List.getElem?_toArray, List.getElem?_cons_zero, List.getElem?_cons_succ]; rfl) ?_
          intro K hK
          go_wp2
          refine hK.out _ _ (B2) ?_
          clear hK K
          refine chainL_pure (v := ?_) (by simp only [List.getElem?_toArray, List.getElem?_cons_zero, List.getElem?_cons_succ]; rfl) (by rfl) (fun w => ?_) ?_
          rotate_left
          · go_simp <;> with_reducible rfl
          simp only [Act.put, List.setIfInBounds_toArray, List.set_cons_zero, List.set_cons_succ]
          refine chainL_alone (by simp only [List.getElem?_toArray, List.getElem?_cons_zero, List.getElem?_cons_succ]; rfl) ?_
          intro K hK
          go_wp2
          refine hK.out _ _ (B2) ?_
          clear hK K
          refine chainL_alone (by simp only [List.getElem?_toArray, List.getElem?_cons_zero, List.getElem?_cons_succ]; rfl) ?_
          intro K hK
          go_wp2
          refine hK.out _ _ (B2) ?_
          clear hK K
          refine chainL_alone (by simp only [List.getElem?_toArray, List.getElem?_cons_zero, List.getElem?_cons_succ]; rfl) ?_
          intro K hK
          go_wp2
          refine hK.out _ _ (B2) ?_
          clear hK K
          refine chainL_alone (by simp only [List.getElem?_toArray, List.getElem?_cons_zero, List.getElem?_cons_succ]; rfl) ?_
          intro K hK
          go_wp2
          refine hK.out _ _ (B2) ?_
          clear hK K
          refine chainL_pure (v := ?_) (by simp only [List.getElem?_toArray, List.getElem?_cons_zero, List.getElem?_cons_succ]; rfl) (by rfl) (fun w => ?_) ?_
          rotate_left
          · go_simp <;> with_reducible rfl
          simp only [Act.put, List.setIfInBounds_toArray, List.set_cons_zero, List.set_cons_succ]
          refine chainL_pure (v := ?_) (by simp only [List.getElem?_toArray, List.getElem?_cons_zero, List.getElem?_cons_succ]; rfl) (by rfl) (fun w => ?_) ?_
          rotate_left
          · go_simp <;> with_reducible rfl
          simp only [Act.put, List.setIfInBounds_toArray, List.set_cons_zero, List.set_cons_succ]
          refine chainL_pure (v := ?_) (by simp only [List.getElem?_toArray, List.getElem?_cons_zero, List.getElem?_cons_succ]; rfl) (by rfl) (fun w => ?_) ?_
          rotate_left
          · go_simp <;> with_reducible rfl
          simp only [Act.put, List.setIfInBounds_toArray, List.set_cons_zero, List.set_cons_succ]
          refine chainL_take (v := ?_) (by simp only [List.getElem?_toArray, List.getElem?_cons_zero, List.getElem?_cons_succ]; rfl) (by rfl) (fun w hS => ?_) ?_
          rotate_left
          · obtain ⟨d0, d1, d2, -⟩ := cells3 (HE.out.p.q.later hS); go_simp <;> with_reducible rfl
          simp only [Act.put, List.setIfInBounds_toArray, List.set_cons_zero, List.set_cons_succ]
          refine chainL_take (v := ?_) (by simp only [List.getElem?_toArray, List.getElem?_cons_zero, List.getElem?_cons_succ]; rfl) (by rfl) (fun w hS => ?_) ?_
          rotate_left
          · obtain ⟨d0, d1, d2, -⟩ := cells3 (HE.out.p.q.later hS); go_simp <;> with_reducible rfl
          simp only [Act.put, List.setIfInBounds_toArray, List.set_cons_zero, List.set_cons_succ]
          refine chainL_alone (by simp only [List.getElem?_toArray, List.getElem?_cons_zero, List.getElem?_cons_succ]; rfl) ?_
          intro K hK
          go_wp2_with fail
          refine (gline_no (HE.out.p.grd.later B2) r hrr).mono ?_
          rintro e k3 ⟨rfl, rfl⟩
          have B3 := B2
          go_wp2
          refine hK.out _ _ (B3) ?_
          clear hK K
          refine chainL_pure (v := ?_) (by simp only [List.getElem?_toArray, List.getElem?_cons_zero, List.getElem?_cons_succ]; rfl) (by rfl) (fun w => ?_) ?_
          rotate_left
          · go_simp <;> with_reducible rfl
          simp only [Act.put, List.setIfInBounds_toArray, List.set_cons_zero, List.set_cons_succ]
          refine chainL_alone (by simp only [List.getElem?_toArray, List.getElem?_cons_zero, List.getElem?_cons_succ]; rfl) ?_
          intro K hK
          go_wp2_with fail
          refine (rhas_any A R cap g.row g.col r _).mono ?_
          rintro e k4 ⟨rfl, hb⟩
          rw [HHas.out]
          have B4 : Below V2.heap.size V2 k4 := B3.trans (hb.mono B3.size)
          clear hb
          go_wp2
          refine hK.out _ _ (B4) ?_
          clear hK K
          refine chainL_alone (by simp only [List.getElem?_toArray, List.getElem?_cons_zero, List.getElem?_cons_succ]; rfl) ?_
          intro K hK
          go_wp2_with fail
          refine (rgcols_any A R cap C g.row g.col g.ls k4 (HE.out.p.lns.below B4) HE.out.p.ok.len HE.out.p.ok.r1 HC0.out).mono ?_
          rintro e k5 ⟨rfl, hb⟩
          have B5 : Below V2.heap.size V2 k5 := B4.trans (hb.mono B4.size)
          clear hb
          go_wp2
          refine hK.out _ _ (B5) ?_
          clear hK K
          refine chainL_alone (by simp only [List.getElem?_toArray, List.getElem?_cons_zero, List.getElem?_cons_succ]; rfl) ?_
          intro K hK
          go_wp2_with fail
          refine (count_any false (C : Int) k5).mono ?_
          rintro e k6 ⟨rfl, rfl⟩
          go_wp2
          refine hK.out _ _ (B5) ?_
          clear hK K
          refine chainL_alone (by simp only [List.getElem?_toArray, List.getElem?_cons_zero, List.getElem?_cons_succ]; rfl) ?_
          intro K hK
          go_wp2
          refine hK.out _ _ (B5) ?_
          clear hK K
          refine chainL_alone (by simp only [List.getElem?_toArray, List.getElem?_cons_zero, List.getElem?_cons_succ]; rfl) ?_
          intro K hK
          go_wp2
          refine hK.out _ _ (B5) ?_
          clear hK K
          refine chainL_late (by simp only [List.getElem?_toArray, List.getElem?_cons_zero, List.getElem?_cons_succ]; rfl) ?_
          intro K hK
          go_wp2
          refine hK.out _ _ ?_
          clear hK K
          refine chainL_nil ?_
          have HBZ := hide (HE.out.bel.trans (B5.mono HE.out.bel.size))
          clear B1 B2 B3 B4 B5
          go_wp2
          go_ret
          exact ⟨rfl, HBZ.out⟩
  · have HNS := hide hs
    have HSZ : Hid (sizeB sr sc = false) := by unfold Hid sizeB; simpa using hs
    clear hs
    go_enter Tryz.func3, Tryz.ntmps3
    go_wp2_with fail
    refine (small_any rows w).mono ?_
    rintro e w1 ⟨rfl, rfl⟩
    rw [HSR.out]
    go_wp2_with fail
    refine (small_any cols w).mono ?_
    rintro e w1 ⟨rfl, rfl⟩
    rw [HSC.out]
    go_wp2_with fail
    refine (gnew_no sr sc HNS.out w).mono ?_
    rintro e w1 ⟨rfl, rfl⟩
    go_wp2_with fail
    refine (rsize_any sr sc w).mono ?_
    rintro e w2 ⟨rfl, rfl⟩
    rw [HSZ.out]
    go_wp2_with fail
    refine (gknown_any w HS.out).mono ?_
    rintro e w1 ⟨rfl, hb⟩
    have HB1 := hide hb
    clear hb
    go_wp2
    go_ret
    exact ⟨rfl, HB1.out⟩
end Go.Proofs.YtiifeniijcnahaaGreatDoor
