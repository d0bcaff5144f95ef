/-
  Contracts and plain mathematics of PStepD, PRFeed, EOps2, EMap.
-/
import Derived.Test.YtkijclgbpbhglaaGreatDoorQd29
import Derived.Test.YtkijclgbpbhglaaGreatDoorQd30
import Derived.Test.YtkijclgbpbhglaaGreatDoorQd31
import Derived.Test.YtkijclgbpbhglaaGreatDoorQd26
import Derived.Test.YtkijclgbpbhglaaGreatDoorQd1
import Derived.MapKept
import Derived.Maps.OwnOps
namespace Go.Proofs.YtkijclgbpbhglaaGreatDoor
set_option maxRecDepth 100000
set_option linter.unusedVariables false
set_option maxHeartbeats 8000000
section
open Go.ChangeShapes Go.WideShapes Go.ChangeAt Go.RowKit
theorem rpstep_10 (p : Ps) (hok : PsOk p) (A : Option Addr) (ln c : Nat) (A' : Option Addr) (lh c' : Nat) (es : List Ev) (Ao : Option Addr) (no co : Nat) (w : World) (hp : Dp w p A ln c A' lh c') (ho : Evo w es Ao no co) (hl : no ≤ 100000) (hln : ln ≤ 10000) (b : Int) (b0 : 0 ≤ b) (b1 : b ≤ 255) (hb : (32 ≤ b ∧ b < 127) ∧ p.st = 0) :
  Calls Tryz.prog 89 #[.agg #[.int .i64 p.st, .slice A ln c, .slice A' lh c'], .slice Ao no co, .int .u8 b] w (DGave w (stepP p b).1 (es ++ (stepP p b).2)) := by
 obtain ⟨W0, hW0⟩ := exq ((w.alloc (.cells #[.int .i64 p.st, .slice A ln c, .slice A' lh c'] 36)).alloc (.cells #[.int .i64 0, .slice none 0 0, .slice none 0 0] 36))
 have HB0 : Hid (Below w.heap.size w W0) := by unfold Hid; rw [← hW0]; exact two_new _ _ _ _ _
 have HP0 : Hid (Whole W0 w.heap.size 36 [.int .i64 p.st, .slice A ln c, .slice A' lh c']) := by unfold Hid; rw [← hW0]; exact (Whole.new _ _ _).alloc _
 have HQ0 : Hid (Whole W0 (w.heap.size + 1) 36 [.int .i64 0, .slice none 0 0, .slice none 0 0]) := by unfold Hid; rw [← hW0]; exact whole_snd _ _ _ _
 have HSZ : Hid (w.heap.size + 1 + 1 = W0.heap.size) := by unfold Hid; rw [← hW0]; simp
 have HDw := hide hp; have HOw := hide ho
 have HD := hide (hp.below HB0.out)
 have HO := hide (ho.below HB0.out)
 have HW0 := hide hW0; clear hW0 hp ho
 have hne : ¬ w.heap.size = w.heap.size + 1 := by omega
 have hne' : ¬ w.heap.size + 1 = w.heap.size := by omega
 obtain ⟨⟨h32, h127l⟩, hs⟩ := hb
 have h128 : b < 128 := by omega
 have h24 : (b == 24) = false := by simp; omega
 have h26 : (b == 26) = false := by simp; omega
 have h27 : (b == 27) = false := by simp; omega
 have h127 : (b == 127) = false := by simp; omega
 obtain ⟨fl, hl8, hcut⟩ : ∃ fl hl8, cut (p.h ++ [b]) = (fl, hl8) := ⟨_, _, rfl⟩
 have hc0 : 128 ≤ b ∨ p.st = 0 := .inr hs
 rw [hs] at HW0 HP0
 rw [step_take (p := p) (b := b) (by omega) (by omega) hc0, hcut]
 simp only
 have hlh := hok.len
 rw [HDw.out.hl] at hlh
 obtain ⟨a0, a1, a2, la⟩ := cells3 HP0.out
 have HCUT := hide hcut; clear hcut
 go_enter Tryz.func89, Tryz.ntmps89
 go_wp2_with (at_builtin; refine stopw ?_)
 unfold Hid
 rw [HW0.out, HSZ.out]
 refine wpList_cat elemBytes rfl _ _ rfl rfl rfl (Own.empty W0 5 .u8) ((HD.out.below ((Below.refl _ _).alloc (Nat.le_refl _) _)).h.ints) HD.out.hl HD.out.d0 (by simp; omega) (by omega) ?_
 intro v1 w1 h1_
 rw [List.nil_append] at h1_
 obtain ⟨A5, c5, rfl, -, -, -, -⟩ := h1_.typed (C := 0)
 have HV1 := hide h1_
 have HLV : Hid (p.h.length ≤ 1000000) := by unfold Hid; have := HDw.out.hl; omega
 clear h1_ a0 a1 a2 la
 go_wp2_with (at_builtin; refine stopw ?_)
 unfold Hid
 refine wpList_push elemBytes rfl _ _ rfl rfl rfl HV1.out HLV.out (by omega) ?_
 intro v2 w2 h2_
 obtain ⟨A6, c6, rfl, hin, hc1, hc00, hc2⟩ := h2_.typed (C := 0)
 obtain ⟨m6, hm6⟩ := exq ((p.h ++ [b]).length)
 rw [hm6]
 rw [hm6] at hc1
 have hm64 : m6 ≤ 4 := by rw [← hm6, List.length_append, HDw.out.hl]; simp; omega
 have hby : Byte (p.h ++ [b]) := hok.byte.append (by intro x hx; simp at hx; omega)
 have HBW := hide h2_.bel; have HIN := hide hin; have HM6 := hide hm6; have HC1 := hide hc1; have HC00 := hide hc00; have HC2 := hide hc2; clear h2_ hin hm6 HV1 hc1 hc00 hc2; go_wp2_with fail
 refine (cutT_any A6 m6 c6 (p.h ++ [b]) w2 HIN.out HM6.out HC1.out HC00.out HC2.out (by omega) hby).mono ?_
 rintro e w3 ⟨v3, A8, n8, c8, rfl, hov, hi8, hn8, hc8, h80⟩
 have hlc := cut_len (p.h ++ [b])
 rw [HCUT.out] at hov hi8 hn8 hlc
 rw [HM6.out] at hlc
 simp only at hov hi8 hn8 hlc
 obtain ⟨A3, c3, rfl, hi3, -, -, -⟩ := hov.typed (C := 0)
 have HB3 : Hid (Below W0.heap.size W0 w3) := HBW.out.trans (hov.bel.mono HBW.out.size)
 obtain ⟨m3, hm3⟩ := exq (fl.length)
 rw [hm3]
 rw [hm3] at hlc
 have HM3 := hide hm3; have HI3 := hide hi3; have HI8 := hide hi8; have HN8 := hide hn8; have H80 := hide h80; clear hov hi3 hi8 hn8 h80 hm3 HIN HM6 HBW hc8 HC1 HC00 HC2 hby
 have HPy := hide (HP0.out.later HB3.out)
 have HQy := hide (HQ0.out.later HB3.out)
 have HDy := hide (HD.out.below HB3.out)
 have HOy := hide (HO.out.below HB3.out)
 have HB4 : Hid (Below w.heap.size w w3) := HB0.out.trans (HB3.out.mono HB0.out.size)
 go_wp2
 go_loopw [1, 10] (fun v i wr => ∃ (k : Nat) (Ak : Option Addr) (nk ck : Nat), k ≤ m3 ∧ i = .int .i64 k ∧ v = .slice Ak nk ck ∧ Evo wr (es ++ prE (fl.take k)) Ak nk ck ∧ Below w3.heap.size w3 wr) (fun _ i _ => m3 - (intOf i).toNat)
 case atStart => exact ⟨0, Ao, no, co, Nat.zero_le _, rfl, rfl, by simpa [prE] using HOy.out, Below.refl _ _⟩
 case round =>
  obtain ⟨k, Ak, nk, ck, hk, rfl, rfl, hev0, hbw⟩ := hrel
  have HOX := hide hev0; have hbw2 := hide hbw
  have HPX := hide (HPy.out.later hbw)
  have HQX := hide (HQy.out.later hbw)
  clear hev0 hbw
  by_cases hlt : k < m3
  ·obtain ⟨bb, off, rfl, hcell, hblt⟩ := (HI3.out.below hbw2.out (Nat.zero_le _)).ints.at (i := k) (by rw [HM3.out]; exact hlt)
   obtain ⟨r, hr⟩ := exq (fl.getD k 0)
   rw [hr] at hcell
   have HTK := hide (take_snoc fl k r (by rw [HM3.out]; exact hlt) hr)
   have hlx : nk ≤ 100010 := by have h5 := HOX.out.nl; have h6 := HOw.out.nl; rw [List.length_append, prE, List.length_map, List.length_take] at h5; omega
   have HCE := hide hcell; clear hr hcell; go_wp2
   refine rgT (fun w' => Below wr.heap.size wr w') (.take 1 (.take 3 (.take 4 (.take 5 (.take 6 (.take 7 (.two 0 (.two 2 (.alone 8 (.alone 9 (.alone 10 .done))) 8 (.alone 2 (.alone 9 (.alone 10 .done)))) 8 (.alone 0 (.alone 2 (.alone 9 (.alone 10 .done))))))))))) bd1 ?_
   iterate 4 refine stT (h := ?_)
   refine stT (hy := fun w9 hS => by have c9 := (hS.cell (p := ⟨bb, off + k, none⟩) hblt).trans HCE.out; go_simp <;> with_reducible rfl) (h := ?_)
   refine stT (h := ?_)
   have Bx61 : Below wr.heap.size wr wr.drew := (Below.refl _ _).drewN 1
   generalize wr.drew = x61 at Bx61 ⊢
   refine tree_two (by simp only [List.getElem?_toArray, List.getElem?_cons_zero]; rfl) (by simp only [List.getElem?_toArray, List.getElem?_cons_zero, List.getElem?_cons_succ]; rfl) ?_ ?_
   ·intro K hK
    go_wp2
    refine hK.out _ _ ((Bx61.alloc Bx61.size _)) ?_
    clear hK K
    have HV := hide (OwnE.empty (C := 0) (te := 60) (k := .i64) x61 (Nat.zero_le _))
    have Bx62 := Bx61.alloc Bx61.size (.cells #[] 60)
    have hz : Hid (x61.heap.size < (x61.alloc (.cells #[] 60)).heap.size) := by unfold Hid; simp
    generalize x61.alloc (.cells #[] 60) = x62 at HV Bx62 hz ⊢
    refine tree_two (by simp only [List.getElem?_toArray, List.getElem?_cons_zero, List.getElem?_cons_succ]; rfl) (by simp only [List.getElem?_toArray, List.getElem?_cons_zero, List.getElem?_cons_succ]; rfl) ?_ ?_
    ·intro K hK
     refine wpList_catEg elemE (by rfl) (.tmp 87) (.tmp 88) rfl rfl rfl HV.out (HOX.out.below Bx62).e HOX.out.nl HOX.out.c0 (by simp; omega) (by omega) (by decide) ?_
     intro vx63 x63 ho hg
     rw [List.nil_append] at ho
     have Bx63 : Below wr.heap.size wr x63 := Bx61.trans (ho.bel.mono Bx61.size)
     obtain ⟨Ax63, nx63, cx63, rfl⟩ := ho.slice
     clear HV; have HV := hide ho; clear ho hg; go_wp2
     refine hK.out _ _ (Bx63) ?_
     clear hK K
     refine alT fun K hK => ?_
     go_wp2
     refine hK.out _ _ ((Bx63.alloc Bx63.size _)) ?_
     clear hK K
     have HE := hide (Whole.new x63 60 [.int .i64 1, .int .i64 r, .slice none 0 0])
     have Bx64 := Bx63.alloc Bx63.size (.cells #[.int .i64 1, .int .i64 r, .slice none 0 0] 60)
     replace HV := hide (HV.out.alloc (.cells #[.int .i64 1, .int .i64 r, .slice none 0 0] 60))
     generalize x63.alloc (.cells #[.int .i64 1, .int .i64 r, .slice none 0 0] 60) = x64 at HE Bx64 HV ⊢
     refine alT fun K hK => ?_
     refine wpList_catE elemE (by rfl) (.tmp 89) (.tmp 95) rfl rfl rfl HV.out (Evs.one (ns := []) HE.out rfl .nil) rfl (fun h => by cases h) (by rw [HOX.out.nl]; omega) (by omega) (by decide) ?_
     intro vx65 x65 ho _ _
     have Bx65 : Below wr.heap.size wr x65 := Bx61.trans (ho.bel.mono Bx61.size)
     obtain ⟨A9, n9, c9, rfl, hev⟩ := ho.evo
     have HEV := hide hev; clear ho hev HV HE; go_wp2
     refine hK.out _ _ (Bx65) ?_
     clear hK K
     refine alT fun K hK => ?_
     go_wp2
     refine hK.out _ _ (Bx65) ?_
     clear hK K
     refine tree_done ?_
     go_wp2
     go_roundw
     case rel =>
      refine ⟨k + 1, A9, n9, c9, by omega, by go_num, rfl, ?_, hbw2.out.trans (Bx65.mono hbw2.out.size)⟩
      rw [HTK.out]
      have e : es ++ prE (fl.take k ++ [r]) = es ++ prE (fl.take k) ++ [⟨1, r, []⟩] := by simp [prE]
      rw [e]
      exact HEV.out
     case measure => simp [intOf]; omega
    ·intro K hK
     go_wp2
     refine hK.out _ _ ((Bx62.alloc Bx62.size _)) ?_
     clear hK K
     have HE := hide (Whole.new x62 60 [.int .i64 1, .int .i64 r, .slice none 0 0])
     have Bx66 := Bx62.alloc Bx62.size (.cells #[.int .i64 1, .int .i64 r, .slice none 0 0] 60)
     replace HV := hide (HV.out.alloc (.cells #[.int .i64 1, .int .i64 r, .slice none 0 0] 60))
     generalize x62.alloc (.cells #[.int .i64 1, .int .i64 r, .slice none 0 0] 60) = x66 at HE Bx66 HV ⊢
     refine alT fun K hK => ?_
     refine wpList_catEg elemE (by rfl) (.tmp 87) (.tmp 88) rfl rfl rfl HV.out (HOX.out.below Bx66).e HOX.out.nl HOX.out.c0 (by simp; omega) (by omega) (by decide) ?_
     intro vx67 x67 ho hg
     rw [List.nil_append] at ho
     have Bx67 : Below wr.heap.size wr x67 := Bx61.trans (ho.bel.mono Bx61.size)
     replace HE := hide (HE.out.far (g' := x61.heap.size) hg (by have := hz.out; omega))
     obtain ⟨Ax67, nx67, cx67, rfl⟩ := ho.slice
     clear HV; have HV := hide ho; clear ho hg; go_wp2
     refine hK.out _ _ (Bx67) ?_
     clear hK K
     refine alT fun K hK => ?_
     refine wpList_catE elemE (by rfl) (.tmp 89) (.tmp 95) rfl rfl rfl HV.out (Evs.one (ns := []) HE.out rfl .nil) rfl (fun h => by cases h) (by rw [HOX.out.nl]; omega) (by omega) (by decide) ?_
     intro vx68 x68 ho _ _
     have Bx68 : Below wr.heap.size wr x68 := Bx61.trans (ho.bel.mono Bx61.size)
     obtain ⟨A9, n9, c9, rfl, hev⟩ := ho.evo
     have HEV := hide hev; clear ho hev HV HE; go_wp2
     refine hK.out _ _ (Bx68) ?_
     clear hK K
     refine alT fun K hK => ?_
     go_wp2
     refine hK.out _ _ (Bx68) ?_
     clear hK K
     refine tree_done ?_
     go_wp2
     go_roundw
     case rel =>
      refine ⟨k + 1, A9, n9, c9, by omega, by go_num, rfl, ?_, hbw2.out.trans (Bx68.mono hbw2.out.size)⟩
      rw [HTK.out]
      have e : es ++ prE (fl.take k ++ [r]) = es ++ prE (fl.take k) ++ [⟨1, r, []⟩] := by simp [prE]
      rw [e]
      exact HEV.out
     case measure => simp [intOf]; omega
   ·intro K hK
    go_wp2
    refine hK.out _ _ ((Bx61.alloc Bx61.size _)) ?_
    clear hK K
    have HE := hide (Whole.new x61 60 [.int .i64 1, .int .i64 r, .slice none 0 0])
    have Bx69 := Bx61.alloc Bx61.size (.cells #[.int .i64 1, .int .i64 r, .slice none 0 0] 60)
    have hz : Hid (x61.heap.size < (x61.alloc (.cells #[.int .i64 1, .int .i64 r, .slice none 0 0] 60)).heap.size) := by unfold Hid; simp
    generalize x61.alloc (.cells #[.int .i64 1, .int .i64 r, .slice none 0 0] 60) = x69 at HE Bx69 hz ⊢
    refine alT fun K hK => ?_
    go_wp2
    refine hK.out _ _ ((Bx69.alloc Bx69.size _)) ?_
    clear hK K
    have HV := hide (OwnE.empty (C := 0) (te := 60) (k := .i64) x69 (Nat.zero_le _))
    have Bx70 := Bx69.alloc Bx69.size (.cells #[] 60)
    replace HE := hide (HE.out.alloc (.cells #[] 60))
    generalize x69.alloc (.cells #[] 60) = x70 at HV Bx70 HE ⊢
    refine alT fun K hK => ?_
    refine wpList_catEg elemE (by rfl) (.tmp 87) (.tmp 88) rfl rfl rfl HV.out (HOX.out.below Bx70).e HOX.out.nl HOX.out.c0 (by simp; omega) (by omega) (by decide) ?_
    intro vx71 x71 ho hg
    rw [List.nil_append] at ho
    have Bx71 : Below wr.heap.size wr x71 := Bx69.trans (ho.bel.mono Bx69.size)
    replace HE := hide (HE.out.far (g' := x69.heap.size) hg (by have := hz.out; omega))
    obtain ⟨Ax71, nx71, cx71, rfl⟩ := ho.slice
    clear HV; have HV := hide ho; clear ho hg; go_wp2
    refine hK.out _ _ (Bx71) ?_
    clear hK K
    refine alT fun K hK => ?_
    refine wpList_catE elemE (by rfl) (.tmp 89) (.tmp 95) rfl rfl rfl HV.out (Evs.one (ns := []) HE.out rfl .nil) rfl (fun h => by cases h) (by rw [HOX.out.nl]; omega) (by omega) (by decide) ?_
    intro vx72 x72 ho _ _
    have Bx72 : Below wr.heap.size wr x72 := Bx69.trans (ho.bel.mono Bx69.size)
    obtain ⟨A9, n9, c9, rfl, hev⟩ := ho.evo
    have HEV := hide hev; clear ho hev HV HE; go_wp2
    refine hK.out _ _ (Bx72) ?_
    clear hK K
    refine alT fun K hK => ?_
    go_wp2
    refine hK.out _ _ (Bx72) ?_
    clear hK K
    refine tree_done ?_
    go_wp2
    go_roundw
    case rel =>
     refine ⟨k + 1, A9, n9, c9, by omega, by go_num, rfl, ?_, hbw2.out.trans (Bx72.mono hbw2.out.size)⟩
     rw [HTK.out]
     have e : es ++ prE (fl.take k ++ [r]) = es ++ prE (fl.take k) ++ [⟨1, r, []⟩] := by simp [prE]
     rw [e]
     exact HEV.out
    case measure => simp [intOf]; omega
  ·have HTK : Hid (fl.take k = fl) := by unfold Hid; exact List.take_of_length_le (by rw [HM3.out]; omega)
   rw [HTK.out] at HOX
   obtain ⟨a0, a1, a2, la⟩ := cells3 HPX.out
   obtain ⟨q0_, q1_, q2_, lq⟩ := cells3 HQX.out
   have zq := HQX.out.frozen
   go_wp2
   refine retP2 Tryz.results89 rfl rfl rfl (put3 HQX.out _ _ _) ?_
   have hst : ∀ t, t ≠ 36 → Stays t wr _ := fun t ht => stays_put3 HQX.out ht (.int .i64 0) (.slice A ln c) (.slice A8 n8 c8)
   have hd := (HDy.out.below hbw2.out).keep (hst 3 (by decide)) (hst 5 (by decide))
   have hi9 := (HI8.out.below hbw2.out (Nat.zero_le _)).keep (w' := _) (fun _ q => absurd q (by omega)) (hst 5 (by decide))
   exact ⟨A, ln, c, A8, n8, c8, Ak, nk, ck, rfl, ⟨hd.n, hi9, hd.nl, HN8.out, hd.c0, hd.c1, hd.c2, H80.out⟩, HOX.out.keep (hst 3 (by decide)) (hst 60 (by decide)), below_put3 (HB4.out.trans (hbw2.out.mono HB4.out.size)) (by omega) _ _ _⟩
theorem rpstep_any (p : Ps) (hok : PsOk p) (A : Option Addr) (ln c : Nat) (A' : Option Addr) (lh c' : Nat) (es : List Ev) (Ao : Option Addr) (no co : Nat) (w : World) (hp : Dp w p A ln c A' lh c') (ho : Evo w es Ao no co) (hl : no ≤ 100000) (hln : ln ≤ 10000) (b : Int) (b0 : 0 ≤ b) (b1 : b ≤ 255) :
  Calls Tryz.prog 89 #[.agg #[.int .i64 p.st, .slice A ln c, .slice A' lh c'], .slice Ao no co, .int .u8 b] w (DGave w (stepP p b).1 (es ++ (stepP p b).2)) := by
 have s0 := hok.st0
 have s4 := hok.st4
 rcases (by omega : b = 24 ∨ b = 26 ∨ b = 127 ∨ (b < 32 ∧ b ≠ 24 ∧ b ≠ 26 ∧ b ≠ 27) ∨ b = 27 ∨ ((32 ≤ b ∧ b < 127) ∧ p.st = 1) ∨ ((32 ≤ b ∧ b < 127) ∧ p.st = 2) ∨ ((32 ≤ b ∧ b < 127) ∧ p.st = 4) ∨ ((32 ≤ b ∧ b < 127) ∧ p.st = 3) ∨ 128 ≤ b ∨ ((32 ≤ b ∧ b < 127) ∧ p.st = 0)) with hb | hb | hb | hb | hb | hb | hb | hb | hb | hb | hb
 ·exact rpstep_0 p hok A ln c A' lh c' es Ao no co w hp ho hl hln b b0 b1 hb
 ·exact rpstep_1 p hok A ln c A' lh c' es Ao no co w hp ho hl hln b b0 b1 hb
 ·exact rpstep_2 p hok A ln c A' lh c' es Ao no co w hp ho hl hln b b0 b1 hb
 ·exact rpstep_3 p hok A ln c A' lh c' es Ao no co w hp ho hl hln b b0 b1 hb
 ·exact rpstep_4 p hok A ln c A' lh c' es Ao no co w hp ho hl hln b b0 b1 hb
 ·exact rpstep_5 p hok A ln c A' lh c' es Ao no co w hp ho hl hln b b0 b1 hb
 ·exact rpstep_6 p hok A ln c A' lh c' es Ao no co w hp ho hl hln b b0 b1 hb
 ·exact rpstep_7 p hok A ln c A' lh c' es Ao no co w hp ho hl hln b b0 b1 hb
 ·exact rpstep_8 p hok A ln c A' lh c' es Ao no co w hp ho hl hln b b0 b1 hb
 ·exact rpstep_9 p hok A ln c A' lh c' es Ao no co w hp ho hl hln b b0 b1 hb
 ·exact rpstep_10 p hok A ln c A' lh c' es Ao no co w hp ho hl hln b b0 b1 hb
theorem rpfeed_any (p : Ps) (hok : PsOk p) (A : Option Addr) (ln c : Nat) (A' : Option Addr) (lh c' : Nat) (w : World) (hp : Dp w p A ln c A' lh c') (hln : ln ≤ 5000) (Ab : Option Addr) (n cb : Nat) (bs : List Int) (hi : Ints .u8 w Ab bs) (hn : bs.length = n) (hl : n ≤ 1000) (hby : Byte bs) :
  Calls Tryz.prog 46 #[.agg #[.int .i64 p.st, .slice A ln c, .slice A' lh c'], .slice Ab n cb] w (DGave w (feedP p bs).1 (feedP p bs).2) := by
 obtain ⟨W0, hW0⟩ := exq ((w.alloc (.cells #[.int .i64 p.st, .slice A ln c, .slice A' lh c'] 36)).alloc (.cells #[.int .i64 0, .slice none 0 0, .slice none 0 0] 36))
 have HB0 : Hid (Below w.heap.size w W0) := by unfold Hid; rw [← hW0]; exact two_new _ _ _ _ _
 have HP0 : Hid (Whole W0 w.heap.size 36 [.int .i64 p.st, .slice A ln c, .slice A' lh c']) := by unfold Hid; rw [← hW0]; exact (Whole.new _ _ _).alloc _
 have HQ0 : Hid (Whole W0 (w.heap.size + 1) 36 [.int .i64 0, .slice none 0 0, .slice none 0 0]) := by unfold Hid; rw [← hW0]; exact whole_snd _ _ _ _
 have HSZ : Hid (w.heap.size + 1 + 1 = W0.heap.size) := by unfold Hid; rw [← hW0]; simp
 have HDw := hide hp; have HW0 := hide hW0
 have HD0 := hide (hp.below HB0.out)
 have HI := hide hi; have HN := hide hn; have HOK0 := hide hok; have HBY := hide hby; clear hW0 hp hi hn hok hby
 have hne : ¬ w.heap.size = w.heap.size + 1 := by omega
 have hne' : ¬ w.heap.size + 1 = w.heap.size := by omega
 go_enter Tryz.func46, Tryz.ntmps46
 go_wp2; rw [HW0.out]
 go_loopw [6, 7] (fun v i wr => ∃ (k : Nat) (Ak : Option Addr) (nk ck : Nat) (Aq : Option Addr) (lq cq : Nat) (Bq : Option Addr) (mq dq : Nat), k ≤ n ∧ i = .int .i64 k ∧ v = .slice Ak nk ck ∧ Dp wr (feedP p (bs.take k)).1 Aq lq cq Bq mq dq ∧ Evo wr (feedP p (bs.take k)).2 Ak nk ck ∧
   Whole wr w.heap.size 36 [.int .i64 (feedP p (bs.take k)).1.st, .slice Aq lq cq, .slice Bq mq dq] ∧ Whole wr (w.heap.size + 1) 36 [.int .i64 0, .slice none 0 0, .slice none 0 0] ∧ Below w.heap.size w wr) (fun _ i _ => n - (intOf i).toNat)
 case atStart => exact ⟨0, none, 0, 0, A, ln, c, A', lh, c', Nat.zero_le _, rfl, rfl, HD0.out, Evo.nil, HP0.out, HQ0.out, HB0.out⟩
 case round =>
  obtain ⟨k, Ak, nk, ck, Aq, lq, cq, Bq, mq, dq, hk, rfl, rfl, hd, he, hp, hq, hbw⟩ := hrel
  by_cases hlt : k < n
  ·obtain ⟨bb, off, rfl, hcell, hblt⟩ := (HI.out.below hbw).at (i := k) (by rw [HN.out]; exact hlt)
   have hbr := HBY.out _ (getD_mem bs k (by rw [HN.out]; exact hlt))
   obtain ⟨b, hb⟩ := exq (bs.getD k 0)
   rw [hb] at hcell hbr
   obtain ⟨b0, b1⟩ := hbr
   have hff := feed_facts (bs.take k) p HOK0.out (HBY.out.take k)
   have HNX : Hid (feedP p (bs.take (k + 1)) = ((stepP (feedP p (bs.take k)).1 b).1, (feedP p (bs.take k)).2 ++ (stepP (feedP p (bs.take k)).1 b).2)) := by
    unfold Hid
    rw [take_snoc bs k b (by rw [HN.out]; exact hlt) hb, feed_snoc]
   obtain ⟨q, es, hqe⟩ : ∃ q es, feedP p (bs.take k) = (q, es) := ⟨_, _, rfl⟩
   rw [hqe] at hd he hp hff HNX
   simp only at hd he hp hff HNX
   obtain ⟨hok, hqn, hle⟩ := hff
   have hle2 : nk ≤ 4000 := by have := he.nl; rw [List.length_take] at hle; omega
   have hlq : lq ≤ 10000 := by have h1 := hd.nl; have h2 := HDw.out.nl; rw [List.length_take] at hqn; omega
   have HD := hide hd; have HE := hide he; have HP := hide hp; have HQ := hide hq; have HB := hide hbw; have HOK := hide hok
   have hcd : wr.drew.cell? ⟨bb, off + k, none⟩ = some (.int .u8 b) := hcell
   clear hd he hp hq hbw hok hqn hle hb hqe; go_wp2
   refine rgL (fun w' => Below wr.heap.size wr w') 10 [(0, 1), (0, 2), (0, 3), (0, 4), (0, 0), (1, 5), (1, 6), (1, 7), (2, 8), (2, 9), (3, 10), (3, 11)] bd1 ?_
   iterate 4 refine stL (h := ?_)
   refine stL (hy := fun w hS => by obtain ⟨p0_, p1_, p2_, lp⟩ := cells3 (HP.out.later hS); go_simp <;> with_reducible rfl) (h := ?_)
   refine alL fun K hK => ?_
   go_wp2
   refine hK.out _ _ bd1 ?_
   clear hK K
   refine alL fun K hK => ?_
   go_wp2_with fail
   refine (rpstep_any q HOK.out Aq lq cq Bq mq dq es Ak nk ck wr.drew (HD.out.below bd1) (HE.out.below bd1) (by omega) (by omega) b b0 b1).mono ?_
   rintro e y1 ⟨A1, l1, c1, A2, l2, c2, O1, o1, k1, rfl, hd, ho, hb⟩
   have By1 : Below wr.heap.size wr y1 := bd1.trans hb
   have HD1 := hide hd; have HE1 := hide ho; clear hd ho hb
   obtain ⟨s1, hs1⟩ := exq ((stepP q b).1.st)
   rw [hs1]
   have HS1 := hide hs1; clear hs1; go_wp2
   refine hK.out _ _ (By1) ?_
   clear hK K
   refine alL fun K hK => ?_
   go_wp2
   refine hK.out _ _ (By1) ?_
   clear hK K
   refine puL (h := ?_)
   refine puL (h := ?_)
   obtain ⟨t0, t1, t2, lt3⟩ := cells3 (HP.out.later By1)
   have zt := (HP.out.later By1).frozen
   refine laL fun K hK => ?_
   go_wp2
   refine hK.out _ _ ?_
   clear hK K
   refine laL fun K hK => ?_
   go_wp2
   refine hK.out _ _ ?_
   clear hK K
   refine chainL_nil ?_
   go_wp2
   go_roundw
   case rel =>
    have hst : ∀ t, t ≠ 36 → Stays t y1 _ := fun t ht => stays_put3 (HP.out.later By1) ht (.int .i64 s1) (.slice A1 l1 c1) (.slice A2 l2 c2)
    refine ⟨k + 1, O1, o1, k1, A1, l1, c1, A2, l2, c2, by omega, by go_num, rfl, ?_, ?_, ?_, (((HQ.out.later By1).other hne').other hne').other hne', below_put3 (HB.out.trans (By1.mono HB.out.size)) (Nat.le_refl _) _ _ _⟩
    ·rw [HNX.out]; exact HD1.out.keep (hst 3 (by decide)) (hst 5 (by decide))
    ·rw [HNX.out]; exact HE1.out.keep (hst 3 (by decide)) (hst 60 (by decide))
    ·rw [HNX.out]; simp only; rw [HS1.out]; exact put3 (HP.out.later By1) _ _ _
   case measure => simp [intOf]; omega
  ·have HTK : Hid (bs.take k = bs) := by unfold Hid; exact List.take_of_length_le (by rw [HN.out]; omega)
   rw [HTK.out] at hd he hp
   obtain ⟨q, es, hqe⟩ : ∃ q es, feedP p bs = (q, es) := ⟨_, _, rfl⟩
   rw [hqe] at hd he hp
   simp only at hd he hp
   have HQE := hide hqe; have HD := hide hd; have HE := hide he; have HQ := hide hq; have HB := hide hbw
   obtain ⟨a0, a1, a2, la⟩ := cells3 hp
   obtain ⟨q0_, q1_, q2_, lq_⟩ := cells3 hq
   have zq := hq.frozen
   clear hd he hp hq hbw hqe; go_wp2
   refine retP2 Tryz.results46 rfl rfl rfl (put3 HQ.out _ _ _) ?_
   have hst : ∀ t, t ≠ 36 → Stays t wr _ := fun t ht => stays_put3 HQ.out ht (.int .i64 q.st) (.slice Aq lq cq) (.slice Bq mq dq)
   rw [HQE.out]
   exact ⟨Aq, lq, cq, Bq, mq, dq, Ak, nk, ck, rfl, HD.out.keep (hst 3 (by decide)) (hst 5 (by decide)), HE.out.keep (hst 3 (by decide)) (hst 60 (by decide)), below_put3 HB.out (by omega) _ _ _⟩
theorem rprest_any (p : Ps) (A : Option Addr) (ln c : Nat) (A' : Option Addr) (lh c' : Nat) (w : World) (hp : Dp w p A ln c A' lh c') (bo : Bool) (hbo : restP p = bo) :
  Calls Tryz.prog 44 #[.agg #[.int .i64 p.st, .slice A ln c, .slice A' lh c']] w (Said bo w) := by
 have HB : Hid (Below w.heap.size w (w.alloc (.cells #[.int .i64 p.st, .slice A ln c, .slice A' lh c'] 36))) := (Below.refl _ _).alloc (Nat.le_refl _) _
 have hh : p.h = [] ↔ lh = 0 := by rw [← List.length_eq_zero_iff, hp.hl]
 by_cases h0 : p.st = 0
 ·have HR : Hid (bo = decide (lh = 0)) := by unfold Hid; rw [← hbo]; unfold restP; rw [h0]; simp [hh]
  clear hh hp hbo
  rw [h0] at HB ⊢
  clear h0
  by_cases h1 : lh = 0
  ·subst h1
   go_enter Tryz.func44, Tryz.ntmps44
   go_wp2; go_ret
   exact ⟨ret_bool (by rw [HR.out]; rfl), HB.out⟩
  ·have hq : ((lh : Int) == 0) = false := by simp; omega
   go_enter Tryz.func44, Tryz.ntmps44
   go_wp2; go_ret
   exact ⟨ret_bool (by rw [HR.out]; simp [h1]), HB.out⟩
 ·obtain rfl : bo = false := by rw [← hbo]; unfold restP; simp [h0]
  have hq : (p.st == 0) = false := by simp [h0]
  clear hh hp hbo h0
  generalize p.st = st at *
  go_enter Tryz.func44, Tryz.ntmps44
  go_wp2; go_ret
  exact ⟨rfl, HB.out⟩
section
variable {w : World} {b : Bl} {L R C : Nat} {e : Em}
theorem rows1_any (h : Emu w b L R C e) (x y : Nat) (hxy : x ≤ y) (hy : y ≤ R) {q q2 : Nat} (p : Pn) (hq : Whole w q 199 [.pointer (some ⟨b.E, 0, none⟩)]) (hq2 : Whole w q2 65 [.int .u8 p.f, .int .u8 p.g, .int .u8 p.b]) : Calls Tryz.prog 201 #[.int .i64 x, .int .i64 y, .pointer (some ⟨q, 0, none⟩), .pointer (some ⟨q2, 0, none⟩)] w (DoneE b L R C { e with g := eraseFrom e.g C p x (y - x) } w) := by
 have hR1 := h.ok.g.r1
 have hR2 := h.ok.g.r2
 have hC1 := h.ok.g.c1
 have hC2 := h.ok.g.c2
 have HE := hide h; have HQ := hide hq; have HQ2 := hide hq2; clear h hq hq2
 go_enter Tryz.func201, Tryz.ntmps201
 go_wp2
 go_loopw [6] (fun i wr => ∃ (j : Nat) (L1 : Nat), x ≤ j ∧ j ≤ y ∧ i = .int .i64 j ∧ At b w L wr L1 R C { e with g := eraseFrom e.g C p x (j - x) }) (fun i _ => y - (intOf i).toNat)
 case atStart => exact ⟨x, L, Nat.le_refl _, hxy, rfl, by rw [Nat.sub_self]; exact At.refl HE.out⟩
 case round =>
  obtain ⟨j, L1, hxj, hjy, rfl, ha⟩ := hrel
  have HN : Hid (eraseFrom e.g C p x (j + 1 - x) = eraseG (eraseFrom e.g C p x (j - x)) (j : Int) 0 (C : Int) p) := by
   unfold Hid
   rw [show j + 1 - x = (j - x) + 1 by omega]
   show eraseG (eraseFrom e.g C p x (j - x)) ((x + (j - x) : Nat) : Int) 0 (C : Int) p = _
   rw [show x + (j - x) = j by omega]
  have HA0 := hide ha
  have HX := hide (HE.out.keeps ha HQ.out (by decide))
  have HY := hide (HE.out.keeps ha HQ2.out (by decide))
  have HE1 := hide ha.emu; clear ha
  by_cases hlt : j < y
  ·go_wp2
   refine rgL (fun w' => Below wr.heap.size wr w') 11 [(0, 4), (0, 0), (0, 1), (0, 2), (0, 3), (0, 5), (0, 6), (0, 7), (0, 8), (0, 10), (1, 9), (3, 11)] bd1 ?_
   refine stL (h := ?_)
   refine stL (hy := fun w hS => by obtain ⟨c0, c1, c2, c3, c4, c5, -⟩ := (HE1.out.later hS).six; have x0 := (HX.out.later hS).cell 0; simp only [List.getElem?_cons_zero] at x0; obtain ⟨d0, d1, d2, -⟩ := cells3 (HY.out.later hS); go_simp <;> with_reducible rfl) (h := ?_)
   refine stL (h := ?_)
   refine stL (h := ?_)
   refine stL (hy := fun w hS => by obtain ⟨c0, c1, c2, c3, c4, c5, -⟩ := (HE1.out.later hS).six; have x0 := (HX.out.later hS).cell 0; simp only [List.getElem?_cons_zero] at x0; obtain ⟨d0, d1, d2, -⟩ := cells3 (HY.out.later hS); go_simp <;> with_reducible rfl) (h := ?_)
   refine stL (hy := fun w hS => by obtain ⟨c0, c1, c2, c3, c4, c5, -⟩ := (HE1.out.later hS).six; have x0 := (HX.out.later hS).cell 0; simp only [List.getElem?_cons_zero] at x0; obtain ⟨d0, d1, d2, -⟩ := cells3 (HY.out.later hS); go_simp <;> with_reducible rfl) (h := ?_)
   refine stL (h := ?_)
   refine stL (h := ?_)
   refine stL (hy := fun w hS => by obtain ⟨c0, c1, c2, c3, c4, c5, -⟩ := (HE1.out.later hS).six; have x0 := (HX.out.later hS).cell 0; simp only [List.getElem?_cons_zero] at x0; obtain ⟨d0, d1, d2, -⟩ := cells3 (HY.out.later hS); go_simp <;> with_reducible rfl) (h := ?_)
   refine stL (hy := fun w hS => by obtain ⟨c0, c1, c2, c3, c4, c5, -⟩ := (HE1.out.later hS).six; have x0 := (HX.out.later hS).cell 0; simp only [List.getElem?_cons_zero] at x0; obtain ⟨d0, d1, d2, -⟩ := cells3 (HY.out.later hS); go_simp <;> with_reducible rfl) (h := ?_)
   refine alL fun K hK => ?_
   go_wp2_with fail
   refine (cols_any (HE1.out.later bd1).grd hR1).mono ?_
   rintro x0 k0 ⟨rfl, rfl⟩
   go_wp2
   refine hK.out _ _ bd1 ?_
   clear hK K
   refine laL fun K hK => ?_
   go_wp2_with fail
   refine (gerase_any (HE1.out.later bd1).grd hC2 (HE1.out.later bd1).sp (j : Int) 0 (C : Int) p.f p.g p.b).mono ?_
   rintro x2 k1 ⟨rfl, hg, ht⟩
   have HB := hide (HA0.out.trans (At.first bd1 ((HE1.out.later bd1).trn0 hg ht (HE1.out.ok.g.erase _ _ _ _))))
   clear hg ht; go_wp2
   refine hK.out _ _ ?_
   clear hK K
   refine chainL_nil ?_
   go_wp2
   go_roundw
   case rel => exact ⟨j + 1, L1, by omega, by omega, by go_num, HB.out.eq (by rw [HN.out])⟩
   case measure => simp [intOf]; omega
  ·obtain rfl : j = y := by omega
   go_wp2
   refine bodyPost_end (v := .tuple #[]) (by simp [results, Tryz.results201]) rfl ⟨rfl, L1, HA0.out⟩
theorem erow_any (h : Emu w b L R C e) (kd r : Int) (A : Option Addr) (n c : Nat) (ns : List Int) (hi : Ints .i64 w A ns) (hn : ns.length = n) : Calls Tryz.prog 155 #[.pointer (some ⟨b.E, 0, none⟩), .agg #[.int .i64 kd, .int .i32 r, .slice A n c]] w (DoneE b L R C { e with g := eraseOwn e.g C (nAt ns 0 0) (blankP e.pen) } w) := by
 have hR1 := h.ok.g.r1
 have hR2 := h.ok.g.r2
 have hC1 := h.ok.g.c1
 have hC2 := h.ok.g.c2
 have hrow := h.ok.g.row
 have hcol := h.ok.g.col
 obtain ⟨W0, hW0⟩ := exq (w.alloc (.cells #[.int .i64 kd, .int .i32 r, .slice A n c] 56))
 have HB0 : Hid (Below w.heap.size w W0) := by unfold Hid; rw [← hW0]; exact (Below.refl _ _).alloc (Nat.le_refl _) _
 have HX0 : Hid (Whole W0 w.heap.size 56 [.int .i64 kd, .int .i32 r, .slice A n c]) := by unfold Hid; rw [← hW0]; exact Whole.new _ _ _
 have HW0 := hide hW0; clear hW0
 obtain ⟨x0, x1, x2, lX⟩ := cells3 HX0.out
 have HE := hide (h.later HB0.out)
 obtain ⟨c0, c1, c2, c3, c4, c5, lE⟩ := HE.out.six
 have HI := hide (hi.below HB0.out)
 have HN := hide hn
 obtain ⟨m, hm⟩ := exq (numP ns 0 0)
 have HM2 : Hid (nAt ns 0 0 = m) := by unfold Hid; rw [← hm]; exact (numP_nAt ns 0 0).symm
 have HM := hide hm; clear hi hn hm h
 go_enter Tryz.func155, Tryz.ntmps155
 go_wp2; rw [HW0.out]
 refine rgL (fun w' => Below W0.heap.size W0 w') 13 [(0, 0), (0, 6), (0, 9), (0, 1), (0, 2), (0, 3), (0, 7), (0, 8), (1, 4), (1, 5), (1, 10), (1, 11), (1, 12), (3, 13)] bd1 ?_
 iterate 8 refine stL (h := ?_)
 refine alL fun K hK => ?_
 go_wp2
 refine hK.out _ _ bd1 ?_
 clear hK K
 refine alL fun K hK => ?_
 go_wp2_with fail
 refine (col_any (HE.out.later bd1).grd).mono ?_
 rintro x k0 ⟨rfl, rfl⟩
 go_wp2
 refine hK.out _ _ bd1 ?_
 clear hK K
 refine alL fun K hK => ?_
 go_wp2_with fail
 refine (eblank_any (HE.out.later bd1)).mono ?_
 rintro x k1 ⟨rfl, hb⟩
 have B1 : Below W0.heap.size W0 k1 := bd1.trans hb
 clear hb; go_wp2
 refine hK.out _ _ (B1) ?_
 clear hK K
 refine alL fun K hK => ?_
 go_wp2_with fail
 refine (cols_fn b.E (blankP e.pen) k1).mono ?_
 rintro x k2 ⟨rfl, hx, hy, hb⟩
 have B2 : Below W0.heap.size W0 k2 := B1.trans (hb.mono B1.size)
 have HX := hide hx; have HY := hide hy; clear hx hy hb; go_wp2
 refine hK.out _ _ (B2) ?_
 clear hK K
 refine alL fun K hK => ?_
 go_wp2
 refine hK.out _ _ (B2) ?_
 clear hK K
 refine laL fun K hK => ?_
 go_wp2
 refine hK.out _ _ ?_
 clear hK K
 refine chainL_nil ?_
 have HE2 := hide (HE.out.later B2)
 clear x0 x1 x2 lX c0 c1 c2 c3 c4 c5 lE
 obtain ⟨x0, x1, x2, lX⟩ := cells3 (HX0.out.later B2)
 go_wp2_with fail
 refine (part_any kd r A n c ns _ (HI.out.below B2) HN.out).mono ?_
 rintro x k3 ⟨rfl, hb⟩
 rw [HM.out]
 have B3 : Below W0.heap.size W0 k3 := B2.trans (hb.mono B2.size)
 have HX3 := hide (HX.out.later hb)
 have HY3 := hide (HY.out.later hb)
 have HE3 := hide (HE2.out.later hb)
 have HB3 := hide B3
 have HXE := hide (HX0.out.later B3)
 clear hb HX HY B2 B3 HE2 x0 x1 x2 lX
 obtain ⟨c0, c1, c2, c3, c4, c5, lE⟩ := HE3.out.six
 by_cases m0 : m = 0
 ·subst m0
  go_wp2_with fail
  refine (cols_any HE3.out.grd hR1).mono ?_
  rintro x k4 ⟨rfl, rfl⟩
  go_wp2_with fail
  refine (cols1_any HE3.out (e.g.col : Int) (C : Int) (blankP e.pen) HX3.out HY3.out).mono ?_
  rintro x k5 ⟨rfl, L1, ha⟩
  have HA := hide (At.first HB0.out (At.first HB3.out ha))
  clear ha; clear c0 c1 c2 c3 c4 c5 lE; go_wp2
  refine bodyPost_end (v := .tuple #[]) (by simp [results, Tryz.results155]) rfl ⟨rfl, _, HA.out.eq (by rw [HM2.out]; unfold eraseOwn; simp)⟩
 ·have q0 : (m == 0) = false := by simp [m0]
  by_cases m1 : m = 1
  ·subst m1
   go_wp2_with fail
   refine (cols1_any HE3.out 0 ((e.g.col : Int) + 1) (blankP e.pen) HX3.out HY3.out).mono ?_
   rintro x k5 ⟨rfl, L1, ha⟩
   have HA := hide (At.first HB0.out (At.first HB3.out ha))
   clear ha; clear c0 c1 c2 c3 c4 c5 lE; go_wp2
   refine bodyPost_end (v := .tuple #[]) (by simp [results, Tryz.results155]) rfl ⟨rfl, _, HA.out.eq (by rw [HM2.out]; unfold eraseOwn; simp)⟩
  ·have q1 : (m == 1) = false := by simp [m1]
   by_cases m2 : m = 2
   ·subst m2
    go_wp2_with fail
    refine (cols_any HE3.out.grd hR1).mono ?_
    rintro x k4 ⟨rfl, rfl⟩
    go_wp2_with fail
    refine (cols1_any HE3.out 0 (C : Int) (blankP e.pen) HX3.out HY3.out).mono ?_
    rintro x k5 ⟨rfl, L1, ha⟩
    have HA := hide (At.first HB0.out (At.first HB3.out ha))
    clear ha; clear c0 c1 c2 c3 c4 c5 lE; go_wp2
    refine bodyPost_end (v := .tuple #[]) (by simp [results, Tryz.results155]) rfl ⟨rfl, _, HA.out.eq (by rw [HM2.out]; unfold eraseOwn; simp)⟩
   ·have q2 : (m == 2) = false := by simp [m2]
    have HZ : Hid (eraseOwn e.g C m (blankP e.pen) = e.g) := by unfold Hid eraseOwn; simp [m0, m1, m2]
    clear m0 m1 m2 c0 c1 c2 c3 c4 c5 lE; go_wp2
    refine bodyPost_end (v := .tuple #[]) (by simp [results, Tryz.results155]) rfl ⟨rfl, _, (by have := At.first HB0.out (At.first HB3.out (At.refl HE3.out)); exact this.eq (by rw [HM2.out, HZ.out]))⟩
theorem eerows_any (h : Emu w b L R C e) (kd r : Int) (A : Option Addr) (n c : Nat) (ns : List Int) {B : Nat} (hi : IntsT B 3 .i64 w A ns) (hn : ns.length = n) (hl : Low B b L) (hB : B ≤ w.heap.size) : Calls Tryz.prog 154 #[.pointer (some ⟨b.E, 0, none⟩), .agg #[.int .i64 kd, .int .i32 r, .slice A n c]] w (DoneE b L R C { e with g := eraseOwn (eraseTo e.g C (nAt ns 0 0) (blankP e.pen) e.g.ls.length) C (nAt ns 0 0) (blankP e.pen) } w) := by
 have hR1 := h.ok.g.r1
 have hR2 := h.ok.g.r2
 have hC1 := h.ok.g.c1
 have hC2 := h.ok.g.c2
 have hrow := h.ok.g.row
 have hcol := h.ok.g.col
 obtain ⟨W0, hW0⟩ := exq (w.alloc (.cells #[.int .i64 kd, .int .i32 r, .slice A n c] 56))
 have HB0 : Hid (Below w.heap.size w W0) := by unfold Hid; rw [← hW0]; exact (Below.refl _ _).alloc (Nat.le_refl _) _
 have HX0 : Hid (Whole W0 w.heap.size 56 [.int .i64 kd, .int .i32 r, .slice A n c]) := by unfold Hid; rw [← hW0]; exact Whole.new _ _ _
 have HW0 := hide hW0; clear hW0
 obtain ⟨x0, x1, x2, lX⟩ := cells3 HX0.out
 have HE := hide (h.later HB0.out)
 obtain ⟨c0, c1, c2, c3, c4, c5, lE⟩ := HE.out.six
 have HI := hide (hi.below HB0.out hB)
 have HN := hide hn
 obtain ⟨m, hm⟩ := exq (numP ns 0 0)
 have HM2 : Hid (nAt ns 0 0 = m) := by unfold Hid; rw [← hm]; exact (numP_nAt ns 0 0).symm
 have HM := hide hm; have HI0 := hide hi; have HE0 := hide h; have HLB := hide hl
 have HZ0 : Hid (eraseTo e.g C 0 (blankP e.pen) e.g.ls.length = eraseFrom e.g C (blankP e.pen) (e.g.row + 1) (R - (e.g.row + 1))) := rows_0 h.ok.g _
 have HZ1 : Hid (eraseTo e.g C 1 (blankP e.pen) e.g.ls.length = eraseFrom e.g C (blankP e.pen) 0 e.g.row) := rows_1 h.ok.g _
 have HZ2 : Hid (eraseTo e.g C 2 (blankP e.pen) e.g.ls.length = eraseFrom e.g C (blankP e.pen) 0 R) := rows_2 h.ok.g _
 clear hi hn hm h hl
 go_enter Tryz.func154, Tryz.ntmps154
 go_wp2; rw [HW0.out]
 refine rgL (fun w' => Below W0.heap.size W0 w') 13 [(0, 0), (0, 6), (0, 9), (0, 1), (0, 2), (0, 3), (0, 7), (0, 8), (1, 4), (1, 5), (1, 10), (1, 11), (1, 12), (3, 13)] bd1 ?_
 iterate 8 refine stL (h := ?_)
 refine alL fun K hK => ?_
 go_wp2
 refine hK.out _ _ bd1 ?_
 clear hK K
 refine alL fun K hK => ?_
 go_wp2_with fail
 refine (row_any (HE.out.later bd1).grd).mono ?_
 rintro x k0 ⟨rfl, rfl⟩
 go_wp2
 refine hK.out _ _ bd1 ?_
 clear hK K
 refine alL fun K hK => ?_
 go_wp2_with fail
 refine (eblank_any (HE.out.later bd1)).mono ?_
 rintro x k1 ⟨rfl, hb⟩
 have B1 : Below W0.heap.size W0 k1 := bd1.trans hb
 clear hb; go_wp2
 refine hK.out _ _ (B1) ?_
 clear hK K
 refine alL fun K hK => ?_
 go_wp2_with fail
 refine (rows_fn b.E (blankP e.pen) k1).mono ?_
 rintro x k2 ⟨rfl, hx, hy, hb⟩
 have B2 : Below W0.heap.size W0 k2 := B1.trans (hb.mono B1.size)
 have HX := hide hx; have HY := hide hy; clear hx hy hb; go_wp2
 refine hK.out _ _ (B2) ?_
 clear hK K
 refine alL fun K hK => ?_
 go_wp2
 refine hK.out _ _ (B2) ?_
 clear hK K
 refine laL fun K hK => ?_
 go_wp2
 refine hK.out _ _ ?_
 clear hK K
 refine chainL_nil ?_
 have HE2 := hide (HE.out.later B2)
 clear x0 x1 x2 lX c0 c1 c2 c3 c4 c5 lE
 obtain ⟨x0, x1, x2, lX⟩ := cells3 (HX0.out.later B2)
 go_wp2_with fail
 refine (part_any kd r A n c ns _ (HI.out.ints.below B2) HN.out).mono ?_
 rintro x k3 ⟨rfl, hb⟩
 rw [HM.out]
 have B3 : Below W0.heap.size W0 k3 := B2.trans (hb.mono B2.size)
 have HX3 := hide (HX.out.later hb)
 have HY3 := hide (HY.out.later hb)
 have HE3 := hide (HE2.out.later hb)
 have HB3 := hide B3
 have HXE := hide (HX0.out.later B3)
 clear hb HX HY B2 B3 HE2 x0 x1 x2 lX
 obtain ⟨c0, c1, c2, c3, c4, c5, lE⟩ := HE3.out.six
 by_cases m0 : m = 0
 ·subst m0
  go_wp2_with fail
  refine (rows_any HE3.out.grd).mono ?_
  rintro x k4 ⟨rfl, rfl⟩
  go_wp2_with fail
  refine (rows1_any HE3.out (e.g.row + 1) R (by omega) (by omega) (blankP e.pen) HX3.out HY3.out).mono ?_
  rintro x k5 ⟨rfl, L1, ha⟩
  have ha0 := hide ha
  have HA := hide (At.first HB0.out (At.first HB3.out ha))
  clear ha; clear c0 c1 c2 c3 c4 c5 lE
  obtain ⟨x0, x1, x2, lX⟩ := cells3 (HE3.out.keeps ha0.out HXE.out (by decide))
  have HI9 := hide (HI0.out.turn HE0.out HA.out.ch HLB.out hB (by decide))
  go_wp2_with fail
  refine (erow_any HA.out.emu kd r A n c ns HI9.out.ints HN.out).mono ?_
  rintro x k6 ⟨rfl, L2, ha⟩
  have HA2 := hide (HA.out.trans ha)
  clear ha x0 x1 x2 lX; go_wp2
  refine bodyPost_end (v := .tuple #[]) (by simp [results, Tryz.results154]) rfl ⟨rfl, _, HA2.out.eq (by rw [HM2.out]; rw [HZ0.out])⟩
 ·have q0 : (m == 0) = false := by simp [m0]
  by_cases m1 : m = 1
  ·subst m1
   go_wp2_with fail
   refine (rows1_any HE3.out 0 e.g.row (by omega) (by omega) (blankP e.pen) HX3.out HY3.out).mono ?_
   rintro x k5 ⟨rfl, L1, ha⟩
   have ha0 := hide ha
   have HA := hide (At.first HB0.out (At.first HB3.out ha))
   clear ha; clear c0 c1 c2 c3 c4 c5 lE
   obtain ⟨x0, x1, x2, lX⟩ := cells3 (HE3.out.keeps ha0.out HXE.out (by decide))
   have HI9 := hide (HI0.out.turn HE0.out HA.out.ch HLB.out hB (by decide))
   go_wp2_with fail
   refine (erow_any HA.out.emu kd r A n c ns HI9.out.ints HN.out).mono ?_
   rintro x k6 ⟨rfl, L2, ha⟩
   have HA2 := hide (HA.out.trans ha)
   clear ha x0 x1 x2 lX; go_wp2
   refine bodyPost_end (v := .tuple #[]) (by simp [results, Tryz.results154]) rfl ⟨rfl, _, HA2.out.eq (by rw [HM2.out]; rw [HZ1.out]; rfl)⟩
  ·have q1 : (m == 1) = false := by simp [m1]
   by_cases m2 : m = 2
   ·subst m2
    go_wp2_with fail
    refine (rows_any HE3.out.grd).mono ?_
    rintro x k4 ⟨rfl, rfl⟩
    go_wp2_with fail
    refine (rows1_any HE3.out 0 R (by omega) (by omega) (blankP e.pen) HX3.out HY3.out).mono ?_
    rintro x k5 ⟨rfl, L1, ha⟩
    have ha0 := hide ha
    have HA := hide (At.first HB0.out (At.first HB3.out ha))
    clear ha; clear c0 c1 c2 c3 c4 c5 lE
    obtain ⟨x0, x1, x2, lX⟩ := cells3 (HE3.out.keeps ha0.out HXE.out (by decide))
    have HI9 := hide (HI0.out.turn HE0.out HA.out.ch HLB.out hB (by decide))
    go_wp2_with fail
    refine (erow_any HA.out.emu kd r A n c ns HI9.out.ints HN.out).mono ?_
    rintro x k6 ⟨rfl, L2, ha⟩
    have HA2 := hide (HA.out.trans ha)
    clear ha x0 x1 x2 lX; go_wp2
    refine bodyPost_end (v := .tuple #[]) (by simp [results, Tryz.results154]) rfl ⟨rfl, _, HA2.out.eq (by rw [HM2.out]; rw [HZ2.out]; rfl)⟩
   ·have q2 : (m == 2) = false := by simp [m2]
    have HZ : Hid (eraseTo e.g C m (blankP e.pen) e.g.ls.length = e.g) := rows_no m m0 m1 m2 _
    have ha0 := hide (At.refl HE3.out)
    have HA := hide (At.first HB0.out (At.first HB3.out ha0.out))
    clear c0 c1 c2 c3 c4 c5 lE
    obtain ⟨x0, x1, x2, lX⟩ := cells3 (HE3.out.keeps ha0.out HXE.out (by decide))
    have HI9 := hide (HI0.out.turn HE0.out HA.out.ch HLB.out hB (by decide))
    go_wp2_with fail
    refine (erow_any HA.out.emu kd r A n c ns HI9.out.ints HN.out).mono ?_
    rintro x k6 ⟨rfl, L2, ha⟩
    have HA2 := hide (HA.out.trans ha)
    clear ha x0 x1 x2 lX; go_wp2
    refine bodyPost_end (v := .tuple #[]) (by simp [results, Tryz.results154]) rfl ⟨rfl, _, HA2.out.eq (by rw [HM2.out]; rw [HZ.out])⟩
end
end
section
open Go.ChangeShapes Go.WideShapes Go.ChangeAt Go.RowKit Go.MapKept
theorem isKeyI (q : IntKind) (z : Int) : IsKey (.int q) (.int q z) := by simp [IsKey]
theorem run_insertM {P : Program} {w : World} {T K V : TypeId} {r clock : Nat} {es : Array MapEntry} {q : IntKind} {z : Int} {v : Value} (ht : P.underlying T = some (.map K V)) (hk : P.underlying K = some (.int q))
  (hb : w.heap[r]? = some (.map es clock)) (hn : Instr.findNow (.int q) (.int q z) es.toList 0 = some none) :
  (Instr.mapUpdate T (.map (some r)) (.int q z) v).run P w = .ok () { w with heap := w.heap.setIfInBounds r (.map (es.push { key := .int q z, val := v, born := clock }) (clock + 1)) } := by
 simp [Instr.mapUpdate, run_underlying ht, Go.MapKept.run_getObj_map hb, Go.MapKept.run_checkKey hk (isKeyI q z), Go.MapKept.run_findKey hk hn, Go.MapKept.run_setObj_map _ hb, Result.andThen]
theorem run_lookM {P : Program} {w : World} {T K V : TypeId} {r clock i : Nat} {es : Array MapEntry} {q : IntKind} {z : Int} {v : Value} (ht : P.underlying T = some (.map K V)) (hk : P.underlying K = some (.int q))
  (hb : w.heap[r]? = some (.map es clock)) (hn : Instr.findNow (.int q) (.int q z) es.toList 0 = some (some (i, v))) :
  (Instr.lookup T (.map (some r)) (.int q z) true).run P w = .ok (.tuple #[v, .bool true]) w := by
 simp [Instr.lookup, run_underlying ht, Go.MapKept.run_getObj_map hb, Go.MapKept.run_checkKey hk (isKeyI q z), Go.MapKept.run_findKey hk hn, Result.andThen]
theorem run_lookM_no {P : Program} {w : World} {T K V : TypeId} {r clock : Nat} {es : Array MapEntry} {q : IntKind} {z : Int} {v0 : Value} (ht : P.underlying T = some (.map K V)) (hk : P.underlying K = some (.int q))
  (hb : w.heap[r]? = some (.map es clock)) (hn : Instr.findNow (.int q) (.int q z) es.toList 0 = some none) (hz : (zeroValue V).run P w = .ok v0 w) :
  (Instr.lookup T (.map (some r)) (.int q z) true).run P w = .ok (.tuple #[v0, .bool false]) w := by
 simp [Instr.lookup, run_underlying ht, Go.MapKept.run_getObj_map hb, Go.MapKept.run_checkKey hk (isKeyI q z), Go.MapKept.run_findKey hk hn, hz, Result.andThen]
end
end Go.Proofs.YtkijclgbpbhglaaGreatDoor
