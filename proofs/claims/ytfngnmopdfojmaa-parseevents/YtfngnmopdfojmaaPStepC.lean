/-
  Contracts of the document's own answers: a byte's step, scalars.
-/
import Derived.Test.YtfngnmopdfojmaaPStep0
namespace Go.Proofs.Ytfngnmopdfojmaa
set_option maxRecDepth 100000
open Go.ChangeShapes Go.WideShapes Go.ChangeAt Go.RowKit
set_option linter.unusedVariables false

set_option maxHeartbeats 4000000 in
theorem rpstep_9 (p : Ps) (hok : PsOk p) (A : Option Addr) (ln c : Nat) (A' : Option Addr) (lh c' : Nat) (es : List Ev) (Ao : Option Addr) (no co : Nat) (w : World) (hp : Dp w p A ln c A' lh c') (ho : Evo w es Ao no co) (hl : no ≤ 100000) (hln : ln ≤ 10000) (b : Int) (b0 : 0 ≤ b) (b1 : b ≤ 255) (hb : 128 ≤ b) :
    Calls Try.prog 20 #[.agg #[.int .i64 p.st, .slice A ln c, .slice A' lh c'], .slice Ao no co, .int .u8 b] w (DGave w (stepP p b).1 (es ++ (stepP p b).2)) := by
  obtain ⟨W0, hW0⟩ : ∃ W0, (w.alloc (.cells #[.int .i64 p.st, .slice A ln c, .slice A' lh c'] 37)).alloc (.cells #[.int .i64 0, .slice none 0 0, .slice none 0 0] 37) = W0 := ⟨_, rfl⟩
  have HB0 : Hid (Below w.heap.size w W0) := by unfold Hid; rw [← hW0]; exact two_new w _ _ [.int .i64 p.st, .slice A ln c, .slice A' lh c'] [.int .i64 0, .slice none 0 0, .slice none 0 0]
  have HP0 : Hid (Whole W0 w.heap.size 37 [.int .i64 p.st, .slice A ln c, .slice A' lh c']) := by unfold Hid; rw [← hW0]; exact (Whole.new w 37 [.int .i64 p.st, .slice A ln c, .slice A' lh c']).alloc _
  have HQ0 : Hid (Whole W0 (w.heap.size + 1) 37 [.int .i64 0, .slice none 0 0, .slice none 0 0]) := by unfold Hid; rw [← hW0]; exact whole_snd w _ 37 [.int .i64 0, .slice none 0 0, .slice none 0 0]
  have HSZ : Hid (w.heap.size + 1 + 1 = W0.heap.size) := by unfold Hid; rw [← hW0]; simp
  have HDw := hide hp
  have HOw := hide ho
  have HD := hide (hp.below HB0.out)
  have HO := hide (ho.below HB0.out)
  have HW0 := hide hW0
  clear hW0 hp ho
  have hne : ¬ w.heap.size = w.heap.size + 1 := by omega
  have hne' : ¬ w.heap.size + 1 = w.heap.size := by omega
  have h24 : (b == 24) = false := by simp; omega
  have h26 : (b == 26) = false := by simp; omega
  have h27 : (b == 27) = false := by simp; omega
  have h127 : (b == 127) = false := by simp; omega
  have h32 : 32 ≤ b := by omega
  obtain ⟨fl, hl8, hcut⟩ : ∃ fl hl8, cut (p.h ++ [b]) = (fl, hl8) := ⟨_, _, rfl⟩
  have hc0 : 128 ≤ b ∨ p.st = 0 := .inl hb
  rw [step_take (p := p) (b := b) (by omega) (by omega) hc0, hcut]
  simp only
  have hlh := hok.len
  rw [HDw.out.hl] at hlh
  obtain ⟨a0, a1, a2, la⟩ := cells3 HP0.out
  have HCUT := hide hcut
  clear hcut
  go_enter Try.func20, Try.ntmps20
  go_wp2_with (at_builtin; refine stopw ?_)
  unfold Hid
  rw [HW0.out, HSZ.out]
  refine wpList_cat elemBytes rfl _ _ rfl rfl rfl (Own.empty W0 5 .u8) ((HD.out.below ((Below.refl _ _).alloc (Nat.le_refl _) _)).h.ints) HD.out.hl HD.out.d0 (by simp; omega) (by omega) ?_
  intro v1 w1 h1_
  rw [List.nil_append] at h1_
  obtain ⟨A5, c5, rfl, -, -, -, -⟩ := h1_.typed (C := 0)
  have HV1 := hide h1_
  have HLV : Hid (p.h.length ≤ 1000000) := by unfold Hid; have := HDw.out.hl; omega
  clear h1_ a0 a1 a2 la
  go_wp2_with (at_builtin; refine stopw ?_)
  unfold Hid
  refine wpList_push elemBytes rfl _ _ rfl rfl rfl HV1.out HLV.out (by omega) ?_
  intro v2 w2 h2_
  obtain ⟨A6, c6, rfl, hin, hc1, hc00, hc2⟩ := h2_.typed (C := 0)
  obtain ⟨m6, hm6⟩ : ∃ m6, (p.h ++ [b]).length = m6 := ⟨_, rfl⟩
  rw [hm6]
  rw [hm6] at hc1
  have hm64 : m6 ≤ 4 := by rw [← hm6, List.length_append, HDw.out.hl]; simp; omega
  have hby : Byte (p.h ++ [b]) := hok.byte.append (by intro x hx; simp at hx; omega)
  have HBW := hide h2_.bel
  have HIN := hide hin
  have HM6 := hide hm6
  have HC1 := hide hc1
  have HC00 := hide hc00
  have HC2 := hide hc2
  clear h2_ hin hm6 HV1 hc1 hc00 hc2
  go_wp2_with fail
  refine (cutT_any A6 m6 c6 (p.h ++ [b]) w2 HIN.out HM6.out HC1.out HC00.out HC2.out (by omega) hby).mono ?_
  rintro e w3 ⟨v3, A8, n8, c8, rfl, hov, hi8, hn8, hc8, h80⟩
  have hlc := cut_len (p.h ++ [b])
  rw [HCUT.out] at hov hi8 hn8 hlc
  rw [HM6.out] at hlc
  simp only at hov hi8 hn8 hlc
  obtain ⟨A3, c3, rfl, hi3, -, -, -⟩ := hov.typed (C := 0)
  have HB3 : Hid (Below W0.heap.size W0 w3) := HBW.out.trans (hov.bel.mono HBW.out.size)
  obtain ⟨m3, hm3⟩ : ∃ m3, fl.length = m3 := ⟨_, rfl⟩
  rw [hm3]
  rw [hm3] at hlc
  have HM3 := hide hm3
  have HI3 := hide hi3
  have HI8 := hide hi8
  have HN8 := hide hn8
  have H80 := hide h80
  clear hov hi3 hi8 hn8 h80 hm3 HIN HM6 HBW hc8 HC1 HC00 HC2 hby
  have HPy := hide (HP0.out.later HB3.out)
  have HQy := hide (HQ0.out.later HB3.out)
  have HDy := hide (HD.out.below HB3.out)
  have HOy := hide (HO.out.below HB3.out)
  have HB4 : Hid (Below w.heap.size w w3) := HB0.out.trans (HB3.out.mono HB0.out.size)
  go_wp2
  go_loopw [1, 10] (fun v i wr => ∃ (k : Nat) (Ak : Option Addr) (nk ck : Nat), k ≤ m3 ∧ i = .int .i64 k ∧ v = .slice Ak nk ck ∧ Evo wr (es ++ prE (fl.take k)) Ak nk ck ∧ Below w3.heap.size w3 wr) (fun _ i _ => m3 - (intOf i).toNat)
  case atStart => exact ⟨0, Ao, no, co, Nat.zero_le _, rfl, rfl, by simpa [prE] using HOy.out, Below.refl _ _⟩
  case round =>
    obtain ⟨k, Ak, nk, ck, hk, rfl, rfl, hev0, hbw⟩ := hrel
    have HOX := hide hev0
    have hbw2 := hide hbw
    have HPX := hide (HPy.out.later hbw)
    have HQX := hide (HQy.out.later hbw)
    clear hev0 hbw
    by_cases hlt : k < m3
    · obtain ⟨bb, off, rfl, hcell, hblt⟩ := (HI3.out.below hbw2.out (Nat.zero_le _)).ints.at (i := k) (by rw [HM3.out]; exact hlt)
      obtain ⟨r, hr⟩ : ∃ r, fl.getD k 0 = r := ⟨_, rfl⟩
      rw [hr] at hcell
      have HTK := hide (take_snoc fl k r (by rw [HM3.out]; exact hlt) hr)
      have hlx : nk ≤ 100010 := by have h5 := HOX.out.nl; have h6 := HOw.out.nl; rw [List.length_append, prE, List.length_map, List.length_take] at h5; omega
      have HCE := hide hcell
      clear hr hcell
      go_wp2
      refine wp_region_tree (fun w' => Below wr.heap.size wr w') (.take 1 (.take 3 (.take 4 (.take 5 (.take 6 (.take 7 (.two 0 (.two 2 (.alone 8 (.alone 9 (.alone 10 .done))) 8 (.alone 2 (.alone 9 (.alone 10 .done)))) 8 (.alone 0 (.alone 2 (.alone 9 (.alone 10 .done))))))))))) (by kernel_rfl) (by kernel_rfl) (by kernel_rfl) (fun _ _ _ _ _ h => h) ?_ ?_
      · exact (Below.refl _ _).drewN 1
      refine tree_take (v := ?_) (by simp only [List.getElem?_toArray, List.getElem?_cons_zero, List.getElem?_cons_succ]; rfl) (by rfl) (fun w9 hS => ?_) ?_
      rotate_left
      · go_simp <;> with_reducible rfl
      simp only [Act.put, List.setIfInBounds_toArray, List.set_cons_zero, List.set_cons_succ]
      refine tree_take (v := ?_) (by simp only [List.getElem?_toArray, List.getElem?_cons_zero, List.getElem?_cons_succ]; rfl) (by rfl) (fun w9 hS => ?_) ?_
      rotate_left
      · go_simp <;> with_reducible rfl
      simp only [Act.put, List.setIfInBounds_toArray, List.set_cons_zero, List.set_cons_succ]
      refine tree_take (v := ?_) (by simp only [List.getElem?_toArray, List.getElem?_cons_zero, List.getElem?_cons_succ]; rfl) (by rfl) (fun w9 hS => ?_) ?_
      rotate_left
      · go_simp <;> with_reducible rfl
      simp only [Act.put, List.setIfInBounds_toArray, List.set_cons_zero, List.set_cons_succ]
      refine tree_take (v := ?_) (by simp only [List.getElem?_toArray, List.getElem?_cons_zero, List.getElem?_cons_succ]; rfl) (by rfl) (fun w9 hS => ?_) ?_
      rotate_left
      · go_simp <;> with_reducible rfl
      simp only [Act.put, List.setIfInBounds_toArray, List.set_cons_zero, List.set_cons_succ]
      refine tree_take (v := ?_) (by simp only [List.getElem?_toArray, List.getElem?_cons_zero, List.getElem?_cons_succ]; rfl) (by rfl) (fun w9 hS => ?_) ?_
      rotate_left
      · have c9 := (hS.cell (p := ⟨bb, off + k, none⟩) hblt).trans HCE.out; go_simp <;> with_reducible rfl
      simp only [Act.put, List.setIfInBounds_toArray, List.set_cons_zero, List.set_cons_succ]
      refine tree_take (v := ?_) (by simp only [List.getElem?_toArray, List.getElem?_cons_zero, List.getElem?_cons_succ]; rfl) (by rfl) (fun w9 hS => ?_) ?_
      rotate_left
      · go_simp <;> with_reducible rfl
      simp only [Act.put, List.setIfInBounds_toArray, List.set_cons_zero, List.set_cons_succ]
      have Bx49 : Below wr.heap.size wr wr.drew := (Below.refl _ _).drewN 1
      generalize wr.drew = x49 at Bx49 ⊢
      refine tree_two (by simp only [List.getElem?_toArray, List.getElem?_cons_zero]; rfl) (by simp only [List.getElem?_toArray, List.getElem?_cons_zero, List.getElem?_cons_succ]; rfl) ?_ ?_
      · intro K hK
        go_wp2
        refine hK.out _ _ ((Bx49.alloc Bx49.size _)) ?_
        clear hK K
        have HV := hide (OwnE.empty (C := 0) (te := 58) (k := .i64) x49 (Nat.zero_le _))
        have Bx50 := Bx49.alloc Bx49.size (.cells #[] 58)
        have hz : Hid (x49.heap.size < (x49.alloc (.cells #[] 58)).heap.size) := by unfold Hid; simp
        generalize x49.alloc (.cells #[] 58) = x50 at HV Bx50 hz ⊢
        refine tree_two (by simp only [List.getElem?_toArray, List.getElem?_cons_zero, List.getElem?_cons_succ]; rfl) (by simp only [List.getElem?_toArray, List.getElem?_cons_zero, List.getElem?_cons_succ]; rfl) ?_ ?_
        · intro K hK
          refine wpList_catEg elemE (by rfl) (.tmp 87) (.tmp 88) rfl rfl rfl HV.out (HOX.out.below Bx50).e HOX.out.nl HOX.out.c0 (by simp; omega) (by omega) (by decide) ?_
          intro vx51 x51 ho hg
          rw [List.nil_append] at ho
          have Bx51 : Below wr.heap.size wr x51 := Bx49.trans (ho.bel.mono Bx49.size)
          obtain ⟨Ax51, nx51, cx51, rfl⟩ := ho.slice
          clear HV
          have HV := hide ho
          clear ho hg
          go_wp2
          refine hK.out _ _ (Bx51) ?_
          clear hK K
          refine tree_alone (by simp only [List.getElem?_toArray, List.getElem?_cons_zero, List.getElem?_cons_succ]; rfl) ?_
          intro K hK
          go_wp2
          refine hK.out _ _ ((Bx51.alloc Bx51.size _)) ?_
          clear hK K
          have HE := hide (Whole.new x51 58 [.int .i64 1, .int .i64 r, .slice none 0 0])
          have Bx52 := Bx51.alloc Bx51.size (.cells #[.int .i64 1, .int .i64 r, .slice none 0 0] 58)
          replace HV := hide (HV.out.alloc (.cells #[.int .i64 1, .int .i64 r, .slice none 0 0] 58))
          generalize x51.alloc (.cells #[.int .i64 1, .int .i64 r, .slice none 0 0] 58) = x52 at HE Bx52 HV ⊢
          refine tree_alone (by simp only [List.getElem?_toArray, List.getElem?_cons_zero, List.getElem?_cons_succ]; rfl) ?_
          intro K hK
          refine wpList_catE elemE (by rfl) (.tmp 89) (.tmp 95) rfl rfl rfl HV.out (Evs.one (ns := []) HE.out rfl .nil) rfl (fun h => by cases h) (by rw [HOX.out.nl]; omega) (by omega) (by decide) ?_
          intro vx53 x53 ho _ _
          have Bx53 : Below wr.heap.size wr x53 := Bx49.trans (ho.bel.mono Bx49.size)
          obtain ⟨A9, n9, c9, rfl, hev⟩ := ho.evo
          have HEV := hide hev
          clear ho hev HV HE
          go_wp2
          refine hK.out _ _ (Bx53) ?_
          clear hK K
          refine tree_alone (by simp only [List.getElem?_toArray, List.getElem?_cons_zero, List.getElem?_cons_succ]; rfl) ?_
          intro K hK
          go_wp2
          refine hK.out _ _ (Bx53) ?_
          clear hK K
          refine tree_done ?_
          go_wp2
          go_roundw
          case rel =>
            refine ⟨k + 1, A9, n9, c9, by omega, by go_num, rfl, ?_, hbw2.out.trans (Bx53.mono hbw2.out.size)⟩
            rw [HTK.out]
            have e : es ++ prE (fl.take k ++ [r]) = es ++ prE (fl.take k) ++ [⟨1, r, []⟩] := by simp [prE]
            rw [e]
            exact HEV.out
          case measure => simp [intOf]; omega
        · intro K hK
          go_wp2
          refine hK.out _ _ ((Bx50.alloc Bx50.size _)) ?_
          clear hK K
          have HE := hide (Whole.new x50 58 [.int .i64 1, .int .i64 r, .slice none 0 0])
          have Bx54 := Bx50.alloc Bx50.size (.cells #[.int .i64 1, .int .i64 r, .slice none 0 0] 58)
          replace HV := hide (HV.out.alloc (.cells #[.int .i64 1, .int .i64 r, .slice none 0 0] 58))
          generalize x50.alloc (.cells #[.int .i64 1, .int .i64 r, .slice none 0 0] 58) = x54 at HE Bx54 HV ⊢
          refine tree_alone (by simp only [List.getElem?_toArray, List.getElem?_cons_zero, List.getElem?_cons_succ]; rfl) ?_
          intro K hK
          refine wpList_catEg elemE (by rfl) (.tmp 87) (.tmp 88) rfl rfl rfl HV.out (HOX.out.below Bx54).e HOX.out.nl HOX.out.c0 (by simp; omega) (by omega) (by decide) ?_
          intro vx55 x55 ho hg
          rw [List.nil_append] at ho
          have Bx55 : Below wr.heap.size wr x55 := Bx49.trans (ho.bel.mono Bx49.size)
          replace HE := hide (HE.out.far (g' := x49.heap.size) hg (by have := hz.out; omega))
          obtain ⟨Ax55, nx55, cx55, rfl⟩ := ho.slice
          clear HV
          have HV := hide ho
          clear ho hg
          go_wp2
          refine hK.out _ _ (Bx55) ?_
          clear hK K
          refine tree_alone (by simp only [List.getElem?_toArray, List.getElem?_cons_zero, List.getElem?_cons_succ]; rfl) ?_
          intro K hK
          refine wpList_catE elemE (by rfl) (.tmp 89) (.tmp 95) rfl rfl rfl HV.out (Evs.one (ns := []) HE.out rfl .nil) rfl (fun h => by cases h) (by rw [HOX.out.nl]; omega) (by omega) (by decide) ?_
          intro vx56 x56 ho _ _
          have Bx56 : Below wr.heap.size wr x56 := Bx49.trans (ho.bel.mono Bx49.size)
          obtain ⟨A9, n9, c9, rfl, hev⟩ := ho.evo
          have HEV := hide hev
          clear ho hev HV HE
          go_wp2
          refine hK.out _ _ (Bx56) ?_
          clear hK K
          refine tree_alone (by simp only [List.getElem?_toArray, List.getElem?_cons_zero, List.getElem?_cons_succ]; rfl) ?_
          intro K hK
          go_wp2
          refine hK.out _ _ (Bx56) ?_
          clear hK K
          refine tree_done ?_
          go_wp2
          go_roundw
          case rel =>
            refine ⟨k + 1, A9, n9, c9, by omega, by go_num, rfl, ?_, hbw2.out.trans (Bx56.mono hbw2.out.size)⟩
            rw [HTK.out]
            have e : es ++ prE (fl.take k ++ [r]) = es ++ prE (fl.take k) ++ [⟨1, r, []⟩] := by simp [prE]
            rw [e]
            exact HEV.out
          case measure => simp [intOf]; omega
      · intro K hK
        go_wp2
        refine hK.out _ _ ((Bx49.alloc Bx49.size _)) ?_
        clear hK K
        have HE := hide (Whole.new x49 58 [.int .i64 1, .int .i64 r, .slice none 0 0])
        have Bx57 := Bx49.alloc Bx49.size (.cells #[.int .i64 1, .int .i64 r, .slice none 0 0] 58)
        have hz : Hid (x49.heap.size < (x49.alloc (.cells #[.int .i64 1, .int .i64 r, .slice none 0 0] 58)).heap.size) := by unfold Hid; simp
        generalize x49.alloc (.cells #[.int .i64 1, .int .i64 r, .slice none 0 0] 58) = x57 at HE Bx57 hz ⊢
        refine tree_alone (by simp only [List.getElem?_toArray, List.getElem?_cons_zero]; rfl) ?_
        intro K hK
        go_wp2
        refine hK.out _ _ ((Bx57.alloc Bx57.size _)) ?_
        clear hK K
        have HV := hide (OwnE.empty (C := 0) (te := 58) (k := .i64) x57 (Nat.zero_le _))
        have Bx58 := Bx57.alloc Bx57.size (.cells #[] 58)
        replace HE := hide (HE.out.alloc (.cells #[] 58))
        generalize x57.alloc (.cells #[] 58) = x58 at HV Bx58 HE ⊢
        refine tree_alone (by simp only [List.getElem?_toArray, List.getElem?_cons_zero, List.getElem?_cons_succ]; rfl) ?_
        intro K hK
        refine wpList_catEg elemE (by rfl) (.tmp 87) (.tmp 88) rfl rfl rfl HV.out (HOX.out.below Bx58).e HOX.out.nl HOX.out.c0 (by simp; omega) (by omega) (by decide) ?_
        intro vx59 x59 ho hg
        rw [List.nil_append] at ho
        have Bx59 : Below wr.heap.size wr x59 := Bx57.trans (ho.bel.mono Bx57.size)
        replace HE := hide (HE.out.far (g' := x57.heap.size) hg (by have := hz.out; omega))
        obtain ⟨Ax59, nx59, cx59, rfl⟩ := ho.slice
        clear HV
        have HV := hide ho
        clear ho hg
        go_wp2
        refine hK.out _ _ (Bx59) ?_
        clear hK K
        refine tree_alone (by simp only [List.getElem?_toArray, List.getElem?_cons_zero, List.getElem?_cons_succ]; rfl) ?_
        intro K hK
        refine wpList_catE elemE (by rfl) (.tmp 89) (.tmp 95) rfl rfl rfl HV.out (Evs.one (ns := []) HE.out rfl .nil) rfl (fun h => by cases h) (by rw [HOX.out.nl]; omega) (by omega) (by decide) ?_
        intro vx60 x60 ho _ _
        have Bx60 : Below wr.heap.size wr x60 := Bx57.trans (ho.bel.mono Bx57.size)
        obtain ⟨A9, n9, c9, rfl, hev⟩ := ho.evo
        have HEV := hide hev
        clear ho hev HV HE
        go_wp2
        refine hK.out _ _ (Bx60) ?_
        clear hK K
        refine tree_alone (by simp only [List.getElem?_toArray, List.getElem?_cons_zero, List.getElem?_cons_succ]; rfl) ?_
        intro K hK
        go_wp2
        refine hK.out _ _ (Bx60) ?_
        clear hK K
        refine tree_done ?_
        go_wp2
        go_roundw
        case rel =>
          refine ⟨k + 1, A9, n9, c9, by omega, by go_num, rfl, ?_, hbw2.out.trans (Bx60.mono hbw2.out.size)⟩
          rw [HTK.out]
          have e : es ++ prE (fl.take k ++ [r]) = es ++ prE (fl.take k) ++ [⟨1, r, []⟩] := by simp [prE]
          rw [e]
          exact HEV.out
        case measure => simp [intOf]; omega
    · have HTK : Hid (fl.take k = fl) := by unfold Hid; exact List.take_of_length_le (by rw [HM3.out]; omega)
      rw [HTK.out] at HOX
      obtain ⟨a0, a1, a2, la⟩ := cells3 HPX.out
      obtain ⟨q0_, q1_, q2_, lq⟩ := cells3 HQX.out
      have zq := HQX.out.frozen
      go_wp2
      refine retP2 Try.results20 rfl rfl rfl (put3 HQX.out _ _ _) ?_
      have hst : ∀ t, t ≠ 37 → Stays t wr _ := fun t ht => stays_put3 HQX.out ht (.int .i64 0) (.slice A ln c) (.slice A8 n8 c8)
      have hd := (HDy.out.below hbw2.out).keep (hst 3 (by decide)) (hst 5 (by decide))
      have hi9 := (HI8.out.below hbw2.out (Nat.zero_le _)).keep (w' := _) (fun _ q => absurd q (by omega)) (hst 5 (by decide))
      exact ⟨A, ln, c, A8, n8, c8, Ak, nk, ck, rfl, ⟨hd.n, hi9, hd.nl, HN8.out, hd.c0, hd.c1, hd.c2, H80.out⟩, HOX.out.keep (hst 3 (by decide)) (hst 58 (by decide)), below_put3 (HB4.out.trans (hbw2.out.mono HB4.out.size)) (by omega) _ _ _⟩
end Go.Proofs.Ytfngnmopdfojmaa
