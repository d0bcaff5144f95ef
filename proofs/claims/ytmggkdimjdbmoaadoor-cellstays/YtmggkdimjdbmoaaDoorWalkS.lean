/-
  The walk of the law CellStays.
-/
import Derived.Test.YtmggkdimjdbmoaaDoorWalkM
import Derived.Test.YtmggkdimjdbmoaaDoorWClus
namespace Go.Proofs.YtmggkdimjdbmoaaDoor
open Go.ChangeShapes Go.WideShapes Go.ChangeAt Go.RowKit
set_option linter.unusedVariables false

theorem cright_t (r m n : Int) (d f g b : Nat) (hd : d < 256) (h : rightC ⟨r, m, n, d, ⟨f, g, b⟩⟩ = true) (w : World) (hS : Spans w) : Calls Tryd.prog 18 #[.agg #[.int .i32 r, .int .i32 m, .int .i32 n, .int .u8 (d : Int), .int .u8 (f : Int), .int .u8 (g : Int), .int .u8 (b : Int)]] w (Said true w) := by
  have := cright_any r m n d f g b hd w hS
  rw [h] at this
  exact this
theorem cright_0 (f g b : Nat) (h : rightC ⟨0, 0, 0, 0, ⟨f, g, b⟩⟩ = true) (w : World) (hS : Spans w) : Calls Tryd.prog 18 #[.agg #[.int .i32 0, .int .i32 0, .int .i32 0, .int .u8 (0 : Int), .int .u8 (f : Int), .int .u8 (g : Int), .int .u8 (b : Int)]] w (Said true w) := cright_t 0 0 0 0 f g b (by omega) h w hS
theorem cright_b (f g b : Nat) (h : rightC ⟨32, 0, 0, 1, ⟨f, g, b⟩⟩ = true) (w : World) (hS : Spans w) : Calls Tryd.prog 18 #[.agg #[.int .i32 32, .int .i32 0, .int .i32 0, .int .u8 (1 : Int), .int .u8 (f : Int), .int .u8 (g : Int), .int .u8 (b : Int)]] w (Said true w) := cright_t 32 0 0 1 f g b (by omega) h w hS
set_option maxRecDepth 100000 in
set_option maxHeartbeats 8000000 in
theorem cellStays_walk (r m n : Int) (d f g b : Nat) (h1 : CelOk r m n d f g b) (x : Int) (hx0 : R32 x) (F G B : Nat) (h2 : PenOk F G B) (w : World) (hS : Spans w) :
    Calls Tryd.prog 5 #[.agg #[.int .i32 r, .int .i32 m, .int .i32 n, .int .u8 (d : Int), .int .u8 (f : Int), .int .u8 (g : Int), .int .u8 (b : Int)], .int .i32 x, .agg #[.int .u8 (F : Int), .int .u8 (G : Int), .int .u8 (B : Int)]] w fun e w' => e = .returned (.bool true) ∧ Below w.heap.size w w' := by
  obtain ⟨hr, hm, hn, hd, -⟩ := h1
  obtain ⟨W0, hW0⟩ : ∃ W0, (w.alloc (.cells #[.int .i32 r, .int .i32 m, .int .i32 n, .int .u8 (d : Int), .int .u8 (f : Int), .int .u8 (g : Int), .int .u8 (b : Int)] 26)).alloc (.cells #[.int .u8 (F : Int), .int .u8 (G : Int), .int .u8 (B : Int)] 24) = W0 := ⟨_, rfl⟩
  have HB : Hid (Below w.heap.size w W0) := by unfold Hid; rw [← hW0]; exact two_new w _ _ [.int .i32 r, .int .i32 m, .int .i32 n, .int .u8 (d : Int), .int .u8 (f : Int), .int .u8 (g : Int), .int .u8 (b : Int)] [.int .u8 (F : Int), .int .u8 (G : Int), .int .u8 (B : Int)]
  have HS : Hid (Spans W0) := by unfold Hid; rw [← hW0]; exact (hS.alloc _).alloc _
  have HA : Hid (Whole W0 w.heap.size 26 [.int .i32 r, .int .i32 m, .int .i32 n, .int .u8 (d : Int), .int .u8 (f : Int), .int .u8 (g : Int), .int .u8 (b : Int)]) := by unfold Hid; rw [← hW0]; exact (Whole.new w 26 [.int .i32 r, .int .i32 m, .int .i32 n, .int .u8 (d : Int), .int .u8 (f : Int), .int .u8 (g : Int), .int .u8 (b : Int)]).alloc _
  have HP : Hid (Whole W0 (w.heap.size + 1) 24 [.int .u8 (F : Int), .int .u8 (G : Int), .int .u8 (B : Int)]) := by unfold Hid; rw [← hW0]; exact whole_snd w _ 24 [.int .u8 (F : Int), .int .u8 (G : Int), .int .u8 (B : Int)]
  have HW0 := hide hW0
  clear hS hW0 h2
  cases hrc : rightC ⟨r, m, n, d, ⟨f, g, b⟩⟩
  case false =>
    have HR := hide hrc
    clear hrc
    go_enter Tryd.func5, Tryd.ntmps5
    go_wp2_with fail
    rw [HW0.out]
    refine (cright_any r m n d f g b hd _ HS.out).mono ?_
    rintro e w1 ⟨rfl, hb⟩
    rw [HR.out]
    replace HB := hide (HB.out.trans (hb.mono HB.out.size))
    replace HS := hide (HS.out.below hb)
    replace HA := hide (HA.out.later hb)
    replace HP := hide (HP.out.later hb)
    clear hb
    go_wp2_with fail
    refine (known_any _ HS.out).mono ?_
    rintro e w2 ⟨rfl, hb⟩
    replace HB := hide (HB.out.trans (hb.mono HB.out.size))
    replace HS := hide (HS.out.below hb)
    replace HA := hide (HA.out.later hb)
    replace HP := hide (HP.out.later hb)
    clear hb
    go_wp2
    go_ret
    exact ⟨rfl, HB.out⟩
  case true =>
    have HR := hide hrc
    cases hpc : rightN ⟨F, G, B⟩
    case false =>
      have HPR := hide hpc
      clear hrc hpc
      go_enter Tryd.func5, Tryd.ntmps5
      go_wp2_with fail
      rw [HW0.out]
      refine (cright_any r m n d f g b hd _ HS.out).mono ?_
      rintro e w1 ⟨rfl, hb⟩
      rw [HR.out]
      replace HB := hide (HB.out.trans (hb.mono HB.out.size))
      replace HS := hide (HS.out.below hb)
      replace HA := hide (HA.out.later hb)
      replace HP := hide (HP.out.later hb)
      clear hb
      obtain ⟨f10, f11, f12, -⟩ := cells3 HP.out
      have l1 := HP.out.lt
      go_wp2_with fail
      refine (right_any F G B _).mono ?_
      rintro e w2 ⟨rfl, hb⟩
      rw [HPR.out]
      clear f10 f11 f12 l1
      replace HB := hide (HB.out.trans (hb.mono HB.out.size))
      replace HS := hide (HS.out.below hb)
      replace HA := hide (HA.out.later hb)
      replace HP := hide (HP.out.later hb)
      clear hb
      go_wp2_with fail
      refine (known_any _ HS.out).mono ?_
      rintro e w3 ⟨rfl, hb⟩
      replace HB := hide (HB.out.trans (hb.mono HB.out.size))
      replace HS := hide (HS.out.below hb)
      replace HA := hide (HA.out.later hb)
      replace HP := hide (HP.out.later hb)
      clear hb
      go_wp2
      go_ret
      exact ⟨rfl, HB.out⟩
    case true =>
      have HPR := hide hpc
      obtain ⟨⟨⟨r1, m1, n1, d1, ⟨f1, g1, b1⟩⟩, ok1⟩, ho⟩ : ∃ y, ofC x ⟨F, G, B⟩ = y := ⟨_, rfl⟩
      obtain ⟨⟨⟨r2, m2, n2, d2, ⟨f2, g2, b2⟩⟩, ok2⟩, hk⟩ : ∃ y, markC ⟨r, m, n, d, ⟨f, g, b⟩⟩ x = y := ⟨_, rfl⟩
      obtain ⟨hr1, hm1, hn1, hd1⟩ := of_r32 hx0 ho
      obtain ⟨hr2, hm2, hn2, hd2⟩ := mark_r32 hx0 hr hm hn hd hk
      have HRA : Hid (ok1 = true → rightC ⟨r1, m1, n1, d1, ⟨f1, g1, b1⟩⟩ = true) := by
        intro hq
        have := right_of (r := x) (p := ⟨F, G, B⟩) hpc (by rw [ho]; exact hq)
        rw [ho] at this
        exact this
      have HRB : Hid (rightC ⟨r2, m2, n2, d2, ⟨f2, g2, b2⟩⟩ = true) := by
        have := right_mark (r := x) hrc
        rw [hk] at this
        exact this
      have HR0 : Hid (rightC ⟨0, 0, 0, 0, ⟨f, g, b⟩⟩ = true) := right_rest hrc
      have HRK : Hid (rightC ⟨32, 0, 0, 1, ⟨F, G, B⟩⟩ = true) := right_blank hpc
      have HRW : Hid (rightC ⟨r, m, n, d, ⟨F, G, B⟩⟩ = true) := right_with hrc hpc
      have HO := hide ho
      have HK := hide hk
      have HLN := hide (runes_len ⟨r, m, n, d, ⟨f, g, b⟩⟩)
      have HL0 : Hid (d = 0 → runesC ⟨r, m, n, d, ⟨f, g, b⟩⟩ = []) := fun h => runes_half h
      have HL1 : Hid (d ≠ 0 → tot (runesC ⟨r, m, n, d, ⟨f, g, b⟩⟩) = d ∧ (clus (runesC ⟨r, m, n, d, ⟨f, g, b⟩⟩)).length = 1) := fun h => runes_bears hrc h
      obtain ⟨L, hL⟩ : ∃ L, runesC ⟨r, m, n, d, ⟨f, g, b⟩⟩ = L := ⟨_, rfl⟩
      rw [hL] at HLN HL0 HL1
      have HL := hide hL
      have hd3 : (0 : Int) ≤ (d : Int) := by omega
      have hd4 : (d : Int) ≤ 255 := by omega
      clear ho hk hL hrc hpc hr1 hm1 hn1 hr2 hm2 hn2 hr hm hn hx0
      cases ok1
      · go_enter Tryd.func5, Tryd.ntmps5
        go_wp2_with fail
        rw [HW0.out]
        refine (cright_any r m n d f g b hd _ HS.out).mono ?_
        rintro e w1 ⟨rfl, hb⟩
        rw [HR.out]
        replace HB := hide (HB.out.trans (hb.mono HB.out.size))
        replace HS := hide (HS.out.below hb)
        replace HA := hide (HA.out.later hb)
        replace HP := hide (HP.out.later hb)
        clear hb
        obtain ⟨f10, f11, f12, -⟩ := cells3 HP.out
        have l1 := HP.out.lt
        go_wp2_with fail
        refine (right_any F G B _).mono ?_
        rintro e w2 ⟨rfl, hb⟩
        rw [HPR.out]
        clear f10 f11 f12 l1
        replace HB := hide (HB.out.trans (hb.mono HB.out.size))
        replace HS := hide (HS.out.below hb)
        replace HA := hide (HA.out.later hb)
        replace HP := hide (HP.out.later hb)
        clear hb
        obtain ⟨f20, f21, f22, -⟩ := cells3 HP.out
        have l2 := HP.out.lt
        go_wp2_with fail
        refine (cof_v x F G B r1 m1 n1 d1 f1 g1 b1 false HO.out _ HS.out).mono ?_
        rintro e w3 ⟨rfl, hb⟩
        clear f20 f21 f22 l2
        replace HB := hide (HB.out.trans (hb.mono HB.out.size))
        replace HS := hide (HS.out.below hb)
        replace HA := hide (HA.out.later hb)
        replace HP := hide (HP.out.later hb)
        clear hb
        obtain ⟨f30, f31, f32, f33, f34, f35, f36, -⟩ := cells7 HA.out
        have l3 := HA.out.lt
        replace HB := hide (HB.out.alloc HB.out.size (.cells #[.int .i32 r1, .int .i32 m1, .int .i32 n1, .int .u8 (d1 : Int), .int .u8 (f1 : Int), .int .u8 (g1 : Int), .int .u8 (b1 : Int)] 26))
        replace HS := hide (HS.out.alloc (.cells #[.int .i32 r1, .int .i32 m1, .int .i32 n1, .int .u8 (d1 : Int), .int .u8 (f1 : Int), .int .u8 (g1 : Int), .int .u8 (b1 : Int)] 26))
        replace HA := hide (HA.out.alloc (.cells #[.int .i32 r1, .int .i32 m1, .int .i32 n1, .int .u8 (d1 : Int), .int .u8 (f1 : Int), .int .u8 (g1 : Int), .int .u8 (b1 : Int)] 26))
        replace HP := hide (HP.out.alloc (.cells #[.int .i32 r1, .int .i32 m1, .int .i32 n1, .int .u8 (d1 : Int), .int .u8 (f1 : Int), .int .u8 (g1 : Int), .int .u8 (b1 : Int)] 26))
        have H7 := hide (Whole.new w3 26 [.int .i32 r1, .int .i32 m1, .int .i32 n1, .int .u8 (d1 : Int), .int .u8 (f1 : Int), .int .u8 (g1 : Int), .int .u8 (b1 : Int)])
        go_wp2_with fail
        refine (cmark_v r m n d f g b x r2 m2 n2 d2 f2 g2 b2 ok2 HK.out _ HS.out).mono ?_
        rintro e w4 ⟨rfl, hb⟩
        clear f30 f31 f32 f33 f34 f35 f36 l3
        replace HB := hide (HB.out.trans (hb.mono HB.out.size))
        replace HS := hide (HS.out.below hb)
        replace HA := hide (HA.out.later hb)
        replace HP := hide (HP.out.later hb)
        replace H7 := hide (H7.out.later hb)
        clear hb
        obtain ⟨f40, f41, f42, f43, f44, f45, f46, -⟩ := cells7 H7.out
        have l4 := H7.out.lt
        replace HB := hide (HB.out.alloc HB.out.size (.cells #[.int .i32 r2, .int .i32 m2, .int .i32 n2, .int .u8 (d2 : Int), .int .u8 (f2 : Int), .int .u8 (g2 : Int), .int .u8 (b2 : Int)] 26))
        replace HS := hide (HS.out.alloc (.cells #[.int .i32 r2, .int .i32 m2, .int .i32 n2, .int .u8 (d2 : Int), .int .u8 (f2 : Int), .int .u8 (g2 : Int), .int .u8 (b2 : Int)] 26))
        replace HA := hide (HA.out.alloc (.cells #[.int .i32 r2, .int .i32 m2, .int .i32 n2, .int .u8 (d2 : Int), .int .u8 (f2 : Int), .int .u8 (g2 : Int), .int .u8 (b2 : Int)] 26))
        replace HP := hide (HP.out.alloc (.cells #[.int .i32 r2, .int .i32 m2, .int .i32 n2, .int .u8 (d2 : Int), .int .u8 (f2 : Int), .int .u8 (g2 : Int), .int .u8 (b2 : Int)] 26))
        replace H7 := hide (H7.out.alloc (.cells #[.int .i32 r2, .int .i32 m2, .int .i32 n2, .int .u8 (d2 : Int), .int .u8 (f2 : Int), .int .u8 (g2 : Int), .int .u8 (b2 : Int)] 26))
        have H9 := hide (Whole.new w4 26 [.int .i32 r2, .int .i32 m2, .int .i32 n2, .int .u8 (d2 : Int), .int .u8 (f2 : Int), .int .u8 (g2 : Int), .int .u8 (b2 : Int)])
        go_wp2_with fail
        refine (cright_t r2 m2 n2 d2 f2 g2 b2 hd2 HRB.out _ HS.out).mono ?_
        rintro e w6 ⟨rfl, hb⟩
        clear f40 f41 f42 f43 f44 f45 f46 l4
        replace HB := hide (HB.out.trans (hb.mono HB.out.size))
        replace HS := hide (HS.out.below hb)
        replace HA := hide (HA.out.later hb)
        replace HP := hide (HP.out.later hb)
        replace H7 := hide (H7.out.later hb)
        replace H9 := hide (H9.out.later hb)
        clear hb
        obtain ⟨f50, f51, f52, f53, f54, f55, f56, -⟩ := cells7 HA.out
        have l5 := HA.out.lt
        go_wp2_with fail
        refine (rest_v r m n d f g b _).mono ?_
        rintro e w7 ⟨rfl, hb⟩
        clear f50 f51 f52 f53 f54 f55 f56 l5
        replace HB := hide (HB.out.trans (hb.mono HB.out.size))
        replace HS := hide (HS.out.below hb)
        replace HA := hide (HA.out.later hb)
        replace HP := hide (HP.out.later hb)
        replace H7 := hide (H7.out.later hb)
        replace H9 := hide (H9.out.later hb)
        clear hb
        go_wp2_with fail
        refine (cright_0 f g b HR0.out _ HS.out).mono ?_
        rintro e w8 ⟨rfl, hb⟩
        replace HB := hide (HB.out.trans (hb.mono HB.out.size))
        replace HS := hide (HS.out.below hb)
        replace HA := hide (HA.out.later hb)
        replace HP := hide (HP.out.later hb)
        replace H7 := hide (H7.out.later hb)
        replace H9 := hide (H9.out.later hb)
        clear hb
        obtain ⟨f60, f61, f62, -⟩ := cells3 HP.out
        have l6 := HP.out.lt
        go_wp2_with fail
        refine (blank_v F G B _).mono ?_
        rintro e w9 ⟨rfl, hb⟩
        clear f60 f61 f62 l6
        replace HB := hide (HB.out.trans (hb.mono HB.out.size))
        replace HS := hide (HS.out.below hb)
        replace HA := hide (HA.out.later hb)
        replace HP := hide (HP.out.later hb)
        replace H7 := hide (H7.out.later hb)
        replace H9 := hide (H9.out.later hb)
        clear hb
        go_wp2_with fail
        refine (cright_b F G B HRK.out _ HS.out).mono ?_
        rintro e w10 ⟨rfl, hb⟩
        replace HB := hide (HB.out.trans (hb.mono HB.out.size))
        replace HS := hide (HS.out.below hb)
        replace HA := hide (HA.out.later hb)
        replace HP := hide (HP.out.later hb)
        replace H7 := hide (H7.out.later hb)
        replace H9 := hide (H9.out.later hb)
        clear hb
        obtain ⟨f70, f71, f72, f73, f74, f75, f76, -⟩ := cells7 HA.out
        have l7 := HA.out.lt
        obtain ⟨f80, f81, f82, -⟩ := cells3 HP.out
        have l8 := HP.out.lt
        go_wp2_with fail
        refine (with_v r m n d f g b F G B _).mono ?_
        rintro e w11 ⟨rfl, hb⟩
        clear f70 f71 f72 f73 f74 f75 f76 l7 f80 f81 f82 l8
        replace HB := hide (HB.out.trans (hb.mono HB.out.size))
        replace HS := hide (HS.out.below hb)
        replace HA := hide (HA.out.later hb)
        replace HP := hide (HP.out.later hb)
        replace H7 := hide (H7.out.later hb)
        replace H9 := hide (H9.out.later hb)
        clear hb
        go_wp2_with fail
        refine (cright_t r m n d F G B hd HRW.out _ HS.out).mono ?_
        rintro e w12 ⟨rfl, hb⟩
        replace HB := hide (HB.out.trans (hb.mono HB.out.size))
        replace HS := hide (HS.out.below hb)
        replace HA := hide (HA.out.later hb)
        replace HP := hide (HP.out.later hb)
        replace H7 := hide (H7.out.later hb)
        replace H9 := hide (H9.out.later hb)
        clear hb
        obtain ⟨f90, f91, f92, f93, f94, f95, f96, -⟩ := cells7 HA.out
        have l9 := HA.out.lt
        go_wp2_with fail
        refine (runes_any r m n d f g b _).mono ?_
        rintro e w13 ⟨v, rfl, hv⟩
        rw [HL.out] at hv
        clear f90 f91 f92 f93 f94 f95 f96 l9
        replace HB := hide (HB.out.trans (hv.bel.mono HB.out.size))
        replace HS := hide (HS.out.below hv.bel)
        replace HA := hide (HA.out.later hv.bel)
        obtain ⟨Ahi, cAhi, rfl, hi, nAhi, -, mAhi⟩ := hv.form2
        replace hi := hide hi
        clear hv HP H7 H9
        obtain ⟨f100, f101, f102, f103, f104, f105, f106, -⟩ := cells7 HA.out
        have l10 := HA.out.lt
        by_cases h0 : d = 0
        · have e0 : ((d : Int) == 0) = true := by simp; omega
          obtain rfl : L = [] := HL0.out h0
          clear h0
          go_wp2_with fail
          refine (known_any _ HS.out).mono ?_
          rintro e w14 ⟨rfl, hb⟩
          have hbz := HB.out.trans (hb.mono HB.out.size)
          go_wp2
          go_ret
          exact ⟨rfl, hbz⟩
        · have e0 : ((d : Int) == 0) = false := by simp; omega
          obtain ⟨ht, hc⟩ := HL1.out h0
          have HT := hide ht
          have HCL := hide hc
          have qd : ((d : Int) == (d : Int)) = true := by simp
          clear h0 ht hc
          go_wp2
          refine wp_region_chainH (fun w' => Below w13.heap.size w13 w') [(false, 0), (false, 1), (true, 2), (true, 4), (true, 5), (true, 6), (false, 3), (false, 7), (false, 8), (false, 9), (false, 10), (false, 11), (false, 12), (false, 13), (false, 14), (false, 15)] (by kernel_rfl) (by kernel_rfl) (by kernel_rfl) (fun _ _ _ _ _ h => h) ?_ ?_
          · exact (Below.refl _ _).drewN 1
          refine chainH_alone (by simp only [List.getElem?_toArray, List.getElem?_cons_zero]; rfl) ?_
          intro K hK
          go_wp2_with fail
          refine (known_any _ (HS.out.drewN 1)).mono ?_
          rintro e k0 ⟨rfl, hb⟩
          have Bk0 : Below w13.heap.size w13 k0 := ((Below.refl _ _).drewN 1).trans hb
          clear hb
          replace hi := hide (hi.out.below Bk0)
          go_wp2
          refine hK.out _ _ Bk0 ?_
          clear hK K
          refine chainH_alone (by simp only [List.getElem?_toArray, List.getElem?_cons_zero, List.getElem?_cons_succ]; rfl) ?_
          intro K hK
          go_wp2
          refine hK.out _ _ Bk0 ?_
          clear hK K
          refine chainH_take (v := ?_) (by simp only [List.getElem?_toArray, List.getElem?_cons_zero, List.getElem?_cons_succ]; rfl) (by rfl) (fun w hS => ?_) ?_
          rotate_left
          · go_simp <;> with_reducible rfl
          simp only [Act.put, List.setIfInBounds_toArray, List.set_cons_zero, List.set_cons_succ]
          refine chainH_take (v := ?_) (by simp only [List.getElem?_toArray, List.getElem?_cons_zero, List.getElem?_cons_succ]; rfl) (by rfl) (fun w hS => ?_) ?_
          rotate_left
          · go_simp <;> with_reducible rfl
          simp only [Act.put, List.setIfInBounds_toArray, List.set_cons_zero, List.set_cons_succ]
          refine chainH_take (v := ?_) (by simp only [List.getElem?_toArray, List.getElem?_cons_zero, List.getElem?_cons_succ]; rfl) (by rfl) (fun w hS => ?_) ?_
          rotate_left
          · obtain ⟨a0, a1, a2, a3, a4, a5, a6, -⟩ := cells7 (HA.out.later hS); go_simp <;> with_reducible rfl
          simp only [Act.put, List.setIfInBounds_toArray, List.set_cons_zero, List.set_cons_succ]
          refine chainH_take (v := ?_) (by simp only [List.getElem?_toArray, List.getElem?_cons_zero, List.getElem?_cons_succ]; rfl) (by rfl) (fun w hS => ?_) ?_
          rotate_left
          · go_simp <;> with_reducible rfl
          simp only [Act.put, List.setIfInBounds_toArray, List.set_cons_zero, List.set_cons_succ]
          refine chainH_alone (by simp only [List.getElem?_toArray, List.getElem?_cons_zero, List.getElem?_cons_succ]; rfl) ?_
          intro K hK
          go_wp2_with fail
          refine (total_any Ahi L.length cAhi L _ hi.out rfl (by have := HLN.out; omega) (HS.out.below Bk0)).mono ?_
          rintro e k1 ⟨rfl, hb⟩
          rw [HT.out]
          have Bk1 : Below w13.heap.size w13 k1 := Bk0.trans (hb.mono Bk0.size)
          replace hi := hide (hi.out.below hb)
          clear hb
          go_wp2
          refine hK.out _ _ Bk1 ?_
          clear hK K
          refine chainH_alone (by simp only [List.getElem?_toArray, List.getElem?_cons_zero, List.getElem?_cons_succ]; rfl) ?_
          intro K hK
          go_wp2
          refine hK.out _ _ Bk1 ?_
          clear hK K
          refine chainH_alone (by simp only [List.getElem?_toArray, List.getElem?_cons_zero, List.getElem?_cons_succ]; rfl) ?_
          intro K hK
          go_wp2
          refine hK.out _ _ Bk1 ?_
          clear hK K
          refine chainH_alone (by simp only [List.getElem?_toArray, List.getElem?_cons_zero, List.getElem?_cons_succ]; rfl) ?_
          intro K hK
          go_wp2
          refine hK.out _ _ Bk1 ?_
          clear hK K
          refine chainH_alone (by simp only [List.getElem?_toArray, List.getElem?_cons_zero, List.getElem?_cons_succ]; rfl) ?_
          intro K hK
          go_wp2
          refine hK.out _ _ Bk1 ?_
          clear hK K
          refine chainH_alone (by simp only [List.getElem?_toArray, List.getElem?_cons_zero, List.getElem?_cons_succ]; rfl) ?_
          intro K hK
          go_wp2_with fail
          refine (clusters_any Ahi L.length cAhi L _ hi.out rfl (by have := HLN.out; omega) nAhi mAhi (HS.out.below Bk1)).mono ?_
          rintro e k2 ⟨v, rfl, hv⟩
          have Bk2 : Below w13.heap.size w13 k2 := Bk1.trans (hv.bel.mono Bk1.size)
          obtain ⟨Ac, cc, rfl, -⟩ := hv.form
          rw [HCL.out]
          clear hv
          go_wp2
          refine hK.out _ _ Bk2 ?_
          clear hK K
          refine chainH_alone (by simp only [List.getElem?_toArray, List.getElem?_cons_zero, List.getElem?_cons_succ]; rfl) ?_
          intro K hK
          go_wp2
          refine hK.out _ _ Bk2 ?_
          clear hK K
          refine chainH_alone (by simp only [List.getElem?_toArray, List.getElem?_cons_zero, List.getElem?_cons_succ]; rfl) ?_
          intro K hK
          go_wp2
          refine hK.out _ _ Bk2 ?_
          clear hK K
          refine chainH_alone (by simp only [List.getElem?_toArray, List.getElem?_cons_zero, List.getElem?_cons_succ]; rfl) ?_
          intro K hK
          go_wp2
          refine hK.out _ _ Bk2 ?_
          clear hK K
          refine chainH_alone (by simp only [List.getElem?_toArray, List.getElem?_cons_zero, List.getElem?_cons_succ]; rfl) ?_
          intro K hK
          go_wp2
          refine hK.out _ _ Bk2 ?_
          clear hK K
          refine chainH_nil ?_
          go_wp2
          go_ret
          exact ⟨rfl, HB.out.trans (Bk2.mono HB.out.size)⟩
      · go_enter Tryd.func5, Tryd.ntmps5
        go_wp2_with fail
        rw [HW0.out]
        refine (cright_any r m n d f g b hd _ HS.out).mono ?_
        rintro e w1 ⟨rfl, hb⟩
        rw [HR.out]
        replace HB := hide (HB.out.trans (hb.mono HB.out.size))
        replace HS := hide (HS.out.below hb)
        replace HA := hide (HA.out.later hb)
        replace HP := hide (HP.out.later hb)
        clear hb
        obtain ⟨f10, f11, f12, -⟩ := cells3 HP.out
        have l1 := HP.out.lt
        go_wp2_with fail
        refine (right_any F G B _).mono ?_
        rintro e w2 ⟨rfl, hb⟩
        rw [HPR.out]
        clear f10 f11 f12 l1
        replace HB := hide (HB.out.trans (hb.mono HB.out.size))
        replace HS := hide (HS.out.below hb)
        replace HA := hide (HA.out.later hb)
        replace HP := hide (HP.out.later hb)
        clear hb
        obtain ⟨f20, f21, f22, -⟩ := cells3 HP.out
        have l2 := HP.out.lt
        go_wp2_with fail
        refine (cof_v x F G B r1 m1 n1 d1 f1 g1 b1 true HO.out _ HS.out).mono ?_
        rintro e w3 ⟨rfl, hb⟩
        clear f20 f21 f22 l2
        replace HB := hide (HB.out.trans (hb.mono HB.out.size))
        replace HS := hide (HS.out.below hb)
        replace HA := hide (HA.out.later hb)
        replace HP := hide (HP.out.later hb)
        clear hb
        obtain ⟨f30, f31, f32, f33, f34, f35, f36, -⟩ := cells7 HA.out
        have l3 := HA.out.lt
        replace HB := hide (HB.out.alloc HB.out.size (.cells #[.int .i32 r1, .int .i32 m1, .int .i32 n1, .int .u8 (d1 : Int), .int .u8 (f1 : Int), .int .u8 (g1 : Int), .int .u8 (b1 : Int)] 26))
        replace HS := hide (HS.out.alloc (.cells #[.int .i32 r1, .int .i32 m1, .int .i32 n1, .int .u8 (d1 : Int), .int .u8 (f1 : Int), .int .u8 (g1 : Int), .int .u8 (b1 : Int)] 26))
        replace HA := hide (HA.out.alloc (.cells #[.int .i32 r1, .int .i32 m1, .int .i32 n1, .int .u8 (d1 : Int), .int .u8 (f1 : Int), .int .u8 (g1 : Int), .int .u8 (b1 : Int)] 26))
        replace HP := hide (HP.out.alloc (.cells #[.int .i32 r1, .int .i32 m1, .int .i32 n1, .int .u8 (d1 : Int), .int .u8 (f1 : Int), .int .u8 (g1 : Int), .int .u8 (b1 : Int)] 26))
        have H7 := hide (Whole.new w3 26 [.int .i32 r1, .int .i32 m1, .int .i32 n1, .int .u8 (d1 : Int), .int .u8 (f1 : Int), .int .u8 (g1 : Int), .int .u8 (b1 : Int)])
        go_wp2_with fail
        refine (cmark_v r m n d f g b x r2 m2 n2 d2 f2 g2 b2 ok2 HK.out _ HS.out).mono ?_
        rintro e w4 ⟨rfl, hb⟩
        clear f30 f31 f32 f33 f34 f35 f36 l3
        replace HB := hide (HB.out.trans (hb.mono HB.out.size))
        replace HS := hide (HS.out.below hb)
        replace HA := hide (HA.out.later hb)
        replace HP := hide (HP.out.later hb)
        replace H7 := hide (H7.out.later hb)
        clear hb
        obtain ⟨f40, f41, f42, f43, f44, f45, f46, -⟩ := cells7 H7.out
        have l4 := H7.out.lt
        replace HB := hide (HB.out.alloc HB.out.size (.cells #[.int .i32 r2, .int .i32 m2, .int .i32 n2, .int .u8 (d2 : Int), .int .u8 (f2 : Int), .int .u8 (g2 : Int), .int .u8 (b2 : Int)] 26))
        replace HS := hide (HS.out.alloc (.cells #[.int .i32 r2, .int .i32 m2, .int .i32 n2, .int .u8 (d2 : Int), .int .u8 (f2 : Int), .int .u8 (g2 : Int), .int .u8 (b2 : Int)] 26))
        replace HA := hide (HA.out.alloc (.cells #[.int .i32 r2, .int .i32 m2, .int .i32 n2, .int .u8 (d2 : Int), .int .u8 (f2 : Int), .int .u8 (g2 : Int), .int .u8 (b2 : Int)] 26))
        replace HP := hide (HP.out.alloc (.cells #[.int .i32 r2, .int .i32 m2, .int .i32 n2, .int .u8 (d2 : Int), .int .u8 (f2 : Int), .int .u8 (g2 : Int), .int .u8 (b2 : Int)] 26))
        replace H7 := hide (H7.out.alloc (.cells #[.int .i32 r2, .int .i32 m2, .int .i32 n2, .int .u8 (d2 : Int), .int .u8 (f2 : Int), .int .u8 (g2 : Int), .int .u8 (b2 : Int)] 26))
        have H9 := hide (Whole.new w4 26 [.int .i32 r2, .int .i32 m2, .int .i32 n2, .int .u8 (d2 : Int), .int .u8 (f2 : Int), .int .u8 (g2 : Int), .int .u8 (b2 : Int)])
        go_wp2_with fail
        refine (cright_t r1 m1 n1 d1 f1 g1 b1 hd1 (HRA.out (by trivial)) _ HS.out).mono ?_
        rintro e w5 ⟨rfl, hb⟩
        clear f40 f41 f42 f43 f44 f45 f46 l4
        replace HB := hide (HB.out.trans (hb.mono HB.out.size))
        replace HS := hide (HS.out.below hb)
        replace HA := hide (HA.out.later hb)
        replace HP := hide (HP.out.later hb)
        replace H7 := hide (H7.out.later hb)
        replace H9 := hide (H9.out.later hb)
        clear hb
        obtain ⟨f50, f51, f52, f53, f54, f55, f56, -⟩ := cells7 H9.out
        have l5 := H9.out.lt
        go_wp2_with fail
        refine (cright_t r2 m2 n2 d2 f2 g2 b2 hd2 HRB.out _ HS.out).mono ?_
        rintro e w6 ⟨rfl, hb⟩
        clear f50 f51 f52 f53 f54 f55 f56 l5
        replace HB := hide (HB.out.trans (hb.mono HB.out.size))
        replace HS := hide (HS.out.below hb)
        replace HA := hide (HA.out.later hb)
        replace HP := hide (HP.out.later hb)
        replace H7 := hide (H7.out.later hb)
        replace H9 := hide (H9.out.later hb)
        clear hb
        obtain ⟨f60, f61, f62, f63, f64, f65, f66, -⟩ := cells7 HA.out
        have l6 := HA.out.lt
        go_wp2_with fail
        refine (rest_v r m n d f g b _).mono ?_
        rintro e w7 ⟨rfl, hb⟩
        clear f60 f61 f62 f63 f64 f65 f66 l6
        replace HB := hide (HB.out.trans (hb.mono HB.out.size))
        replace HS := hide (HS.out.below hb)
        replace HA := hide (HA.out.later hb)
        replace HP := hide (HP.out.later hb)
        replace H7 := hide (H7.out.later hb)
        replace H9 := hide (H9.out.later hb)
        clear hb
        go_wp2_with fail
        refine (cright_0 f g b HR0.out _ HS.out).mono ?_
        rintro e w8 ⟨rfl, hb⟩
        replace HB := hide (HB.out.trans (hb.mono HB.out.size))
        replace HS := hide (HS.out.below hb)
        replace HA := hide (HA.out.later hb)
        replace HP := hide (HP.out.later hb)
        replace H7 := hide (H7.out.later hb)
        replace H9 := hide (H9.out.later hb)
        clear hb
        obtain ⟨f70, f71, f72, -⟩ := cells3 HP.out
        have l7 := HP.out.lt
        go_wp2_with fail
        refine (blank_v F G B _).mono ?_
        rintro e w9 ⟨rfl, hb⟩
        clear f70 f71 f72 l7
        replace HB := hide (HB.out.trans (hb.mono HB.out.size))
        replace HS := hide (HS.out.below hb)
        replace HA := hide (HA.out.later hb)
        replace HP := hide (HP.out.later hb)
        replace H7 := hide (H7.out.later hb)
        replace H9 := hide (H9.out.later hb)
        clear hb
        go_wp2_with fail
        refine (cright_b F G B HRK.out _ HS.out).mono ?_
        rintro e w10 ⟨rfl, hb⟩
        replace HB := hide (HB.out.trans (hb.mono HB.out.size))
        replace HS := hide (HS.out.below hb)
        replace HA := hide (HA.out.later hb)
        replace HP := hide (HP.out.later hb)
        replace H7 := hide (H7.out.later hb)
        replace H9 := hide (H9.out.later hb)
        clear hb
        obtain ⟨f80, f81, f82, f83, f84, f85, f86, -⟩ := cells7 HA.out
        have l8 := HA.out.lt
        obtain ⟨f90, f91, f92, -⟩ := cells3 HP.out
        have l9 := HP.out.lt
        go_wp2_with fail
        refine (with_v r m n d f g b F G B _).mono ?_
        rintro e w11 ⟨rfl, hb⟩
        clear f80 f81 f82 f83 f84 f85 f86 l8 f90 f91 f92 l9
        replace HB := hide (HB.out.trans (hb.mono HB.out.size))
        replace HS := hide (HS.out.below hb)
        replace HA := hide (HA.out.later hb)
        replace HP := hide (HP.out.later hb)
        replace H7 := hide (H7.out.later hb)
        replace H9 := hide (H9.out.later hb)
        clear hb
        go_wp2_with fail
        refine (cright_t r m n d F G B hd HRW.out _ HS.out).mono ?_
        rintro e w12 ⟨rfl, hb⟩
        replace HB := hide (HB.out.trans (hb.mono HB.out.size))
        replace HS := hide (HS.out.below hb)
        replace HA := hide (HA.out.later hb)
        replace HP := hide (HP.out.later hb)
        replace H7 := hide (H7.out.later hb)
        replace H9 := hide (H9.out.later hb)
        clear hb
        obtain ⟨f100, f101, f102, f103, f104, f105, f106, -⟩ := cells7 HA.out
        have l10 := HA.out.lt
        go_wp2_with fail
        refine (runes_any r m n d f g b _).mono ?_
        rintro e w13 ⟨v, rfl, hv⟩
        rw [HL.out] at hv
        clear f100 f101 f102 f103 f104 f105 f106 l10
        replace HB := hide (HB.out.trans (hv.bel.mono HB.out.size))
        replace HS := hide (HS.out.below hv.bel)
        replace HA := hide (HA.out.later hv.bel)
        obtain ⟨Ahi, cAhi, rfl, hi, nAhi, -, mAhi⟩ := hv.form2
        replace hi := hide hi
        clear hv HP H7 H9
        obtain ⟨f110, f111, f112, f113, f114, f115, f116, -⟩ := cells7 HA.out
        have l11 := HA.out.lt
        by_cases h0 : d = 0
        · have e0 : ((d : Int) == 0) = true := by simp; omega
          obtain rfl : L = [] := HL0.out h0
          clear h0
          go_wp2_with fail
          refine (known_any _ HS.out).mono ?_
          rintro e w14 ⟨rfl, hb⟩
          have hbz := HB.out.trans (hb.mono HB.out.size)
          go_wp2
          go_ret
          exact ⟨rfl, hbz⟩
        · have e0 : ((d : Int) == 0) = false := by simp; omega
          obtain ⟨ht, hc⟩ := HL1.out h0
          have HT := hide ht
          have HCL := hide hc
          have qd : ((d : Int) == (d : Int)) = true := by simp
          clear h0 ht hc
          go_wp2
          refine wp_region_chainH (fun w' => Below w13.heap.size w13 w') [(false, 0), (false, 1), (true, 2), (true, 4), (true, 5), (true, 6), (false, 3), (false, 7), (false, 8), (false, 9), (false, 10), (false, 11), (false, 12), (false, 13), (false, 14), (false, 15)] (by kernel_rfl) (by kernel_rfl) (by kernel_rfl) (fun _ _ _ _ _ h => h) ?_ ?_
          · exact (Below.refl _ _).drewN 1
          refine chainH_alone (by simp only [List.getElem?_toArray, List.getElem?_cons_zero]; rfl) ?_
          intro K hK
          go_wp2_with fail
          refine (known_any _ (HS.out.drewN 1)).mono ?_
          rintro e k0 ⟨rfl, hb⟩
          have Bk0 : Below w13.heap.size w13 k0 := ((Below.refl _ _).drewN 1).trans hb
          clear hb
          replace hi := hide (hi.out.below Bk0)
          go_wp2
          refine hK.out _ _ Bk0 ?_
          clear hK K
          refine chainH_alone (by simp only [List.getElem?_toArray, List.getElem?_cons_zero, List.getElem?_cons_succ]; rfl) ?_
          intro K hK
          go_wp2
          refine hK.out _ _ Bk0 ?_
          clear hK K
          refine chainH_take (v := ?_) (by simp only [List.getElem?_toArray, List.getElem?_cons_zero, List.getElem?_cons_succ]; rfl) (by rfl) (fun w hS => ?_) ?_
          rotate_left
          · go_simp <;> with_reducible rfl
          simp only [Act.put, List.setIfInBounds_toArray, List.set_cons_zero, List.set_cons_succ]
          refine chainH_take (v := ?_) (by simp only [List.getElem?_toArray, List.getElem?_cons_zero, List.getElem?_cons_succ]; rfl) (by rfl) (fun w hS => ?_) ?_
          rotate_left
          · go_simp <;> with_reducible rfl
          simp only [Act.put, List.setIfInBounds_toArray, List.set_cons_zero, List.set_cons_succ]
          refine chainH_take (v := ?_) (by simp only [List.getElem?_toArray, List.getElem?_cons_zero, List.getElem?_cons_succ]; rfl) (by rfl) (fun w hS => ?_) ?_
          rotate_left
          · obtain ⟨a0, a1, a2, a3, a4, a5, a6, -⟩ := cells7 (HA.out.later hS); go_simp <;> with_reducible rfl
          simp only [Act.put, List.setIfInBounds_toArray, List.set_cons_zero, List.set_cons_succ]
          refine chainH_take (v := ?_) (by simp only [List.getElem?_toArray, List.getElem?_cons_zero, List.getElem?_cons_succ]; rfl) (by rfl) (fun w hS => ?_) ?_
          rotate_left
          · go_simp <;> with_reducible rfl
          simp only [Act.put, List.setIfInBounds_toArray, List.set_cons_zero, List.set_cons_succ]
          refine chainH_alone (by simp only [List.getElem?_toArray, List.getElem?_cons_zero, List.getElem?_cons_succ]; rfl) ?_
          intro K hK
          go_wp2_with fail
          refine (total_any Ahi L.length cAhi L _ hi.out rfl (by have := HLN.out; omega) (HS.out.below Bk0)).mono ?_
          rintro e k1 ⟨rfl, hb⟩
          rw [HT.out]
          have Bk1 : Below w13.heap.size w13 k1 := Bk0.trans (hb.mono Bk0.size)
          replace hi := hide (hi.out.below hb)
          clear hb
          go_wp2
          refine hK.out _ _ Bk1 ?_
          clear hK K
          refine chainH_alone (by simp only [List.getElem?_toArray, List.getElem?_cons_zero, List.getElem?_cons_succ]; rfl) ?_
          intro K hK
          go_wp2
          refine hK.out _ _ Bk1 ?_
          clear hK K
          refine chainH_alone (by simp only [List.getElem?_toArray, List.getElem?_cons_zero, List.getElem?_cons_succ]; rfl) ?_
          intro K hK
          go_wp2
          refine hK.out _ _ Bk1 ?_
          clear hK K
          refine chainH_alone (by simp only [List.getElem?_toArray, List.getElem?_cons_zero, List.getElem?_cons_succ]; rfl) ?_
          intro K hK
          go_wp2
          refine hK.out _ _ Bk1 ?_
          clear hK K
          refine chainH_alone (by simp only [List.getElem?_toArray, List.getElem?_cons_zero, List.getElem?_cons_succ]; rfl) ?_
          intro K hK
          go_wp2
          refine hK.out _ _ Bk1 ?_
          clear hK K
          refine chainH_alone (by simp only [List.getElem?_toArray, List.getElem?_cons_zero, List.getElem?_cons_succ]; rfl) ?_
          intro K hK
          go_wp2_with fail
          refine (clusters_any Ahi L.length cAhi L _ hi.out rfl (by have := HLN.out; omega) nAhi mAhi (HS.out.below Bk1)).mono ?_
          rintro e k2 ⟨v, rfl, hv⟩
          have Bk2 : Below w13.heap.size w13 k2 := Bk1.trans (hv.bel.mono Bk1.size)
          obtain ⟨Ac, cc, rfl, -⟩ := hv.form
          rw [HCL.out]
          clear hv
          go_wp2
          refine hK.out _ _ Bk2 ?_
          clear hK K
          refine chainH_alone (by simp only [List.getElem?_toArray, List.getElem?_cons_zero, List.getElem?_cons_succ]; rfl) ?_
          intro K hK
          go_wp2
          refine hK.out _ _ Bk2 ?_
          clear hK K
          refine chainH_alone (by simp only [List.getElem?_toArray, List.getElem?_cons_zero, List.getElem?_cons_succ]; rfl) ?_
          intro K hK
          go_wp2
          refine hK.out _ _ Bk2 ?_
          clear hK K
          refine chainH_alone (by simp only [List.getElem?_toArray, List.getElem?_cons_zero, List.getElem?_cons_succ]; rfl) ?_
          intro K hK
          go_wp2
          refine hK.out _ _ Bk2 ?_
          clear hK K
          refine chainH_alone (by simp only [List.getElem?_toArray, List.getElem?_cons_zero, List.getElem?_cons_succ]; rfl) ?_
          intro K hK
          go_wp2
          refine hK.out _ _ Bk2 ?_
          clear hK K
          refine chainH_nil ?_
          go_wp2
          go_ret
          exact ⟨rfl, HB.out.trans (Bk2.mono HB.out.size)⟩
end Go.Proofs.YtmggkdimjdbmoaaDoor
