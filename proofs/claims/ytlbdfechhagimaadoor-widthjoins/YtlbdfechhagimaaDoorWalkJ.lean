/-
  The walk of the law WidthJoins.
-/
import Derived.Test.YtlbdfechhagimaaDoorKnown
namespace Go.Proofs.YtlbdfechhagimaaDoor
open Go.ChangeShapes Go.WideShapes Go.ChangeAt Go.RowKit
set_option linter.unusedVariables false

set_option maxRecDepth 100000 in
set_option maxHeartbeats 2000000 in
theorem widthJoins_walk (a : Option Addr) (len cap : Nat) (zs : List Int) (a1 : Option Addr) (len1 cap1 : Nat) (zs1 : List Int) (n : Int) (w : World)
    (hrow : IsRow .i32 w a len cap zs) (hrow1 : IsRow .i32 w a1 len1 cap1 zs1) (hwn : (Lit.int .i64 n).wf = true) (hS : Spans w) :
    Calls Tryd.prog 6 #[.slice a len cap, .slice a1 len1 cap1, .int .i64 n] w fun e w' => e = .returned (.bool true) ∧ Below w.heap.size w w' := by
  clear hwn
  obtain ⟨hz, hl, hn0, hmax⟩ := hrow.len
  obtain ⟨hz1, hl1, hn1, hmax1⟩ := hrow1.len
  obtain ⟨p, hp, hp20, hpl⟩ : ∃ p : Nat, min (len : Int) 20 = (p : Int) ∧ p ≤ 20 ∧ p ≤ len := ⟨min len 20, by omega, by omega, by omega⟩
  obtain ⟨q, hq, hq20, hql⟩ : ∃ q : Nat, min (len1 : Int) 20 = (q : Int) ∧ q ≤ 20 ∧ q ≤ len1 := ⟨min len1 20, by omega, by omega, by omega⟩
  have hi := hrow.ints.take p
  have hi1 := hrow1.ints.take q
  have hx : (zs.take p).length = p := by rw [List.length_take]; omega
  have hx1 : (zs1.take q).length = q := by rw [List.length_take]; omega
  unfold maxLen at hmax hmax1
  clear hrow hrow1
  have HX := hide hx
  have HX1 := hide hx1
  have HS := hide hS
  have HN0 := hide hn0
  have HN1 := hide hn1
  clear hz hn0 hx hz1 hn1 hx1 hS
  generalize zs.take p = xs at *
  generalize zs1.take q = ys at *
  obtain ⟨E, hE⟩ : ∃ E, xs ++ ys = E := ⟨_, rfl⟩
  have hEl : E.length = p + q := by rw [← hE, List.length_append, HX.out, HX1.out]
  obtain ⟨T, hT⟩ : ∃ T, tot xs = T := ⟨_, rfl⟩
  obtain ⟨U, hU⟩ : ∃ U, tot ys = U := ⟨_, rfl⟩
  have hTU : tot E = T + U := by rw [← hE, tot_append, hT, hU]
  have hTr : 0 ≤ T ∧ T ≤ 40 := by have := tot_range xs; rw [hT, HX.out] at this; omega
  have hUr : 0 ≤ U ∧ U ≤ 40 := by have := tot_range ys; rw [hU, HX1.out] at this; omega
  obtain ⟨F, hF⟩ : ∃ F, fitN n xs = F := ⟨_, rfl⟩
  obtain ⟨G, hG⟩ : ∃ G, fitN n E = G := ⟨_, rfl⟩
  have hFG : F ≤ G := by rw [← hF, ← hG, ← hE]; exact fitN_append n xs ys
  have hG80 : 80 ≤ n → G = E.length := fun h => by rw [← hG, fitN_all n E (by omega)]
  have HE := hide hE
  have HEl := hide hEl
  have HT := hide hT
  have HU := hide hU
  have HTU := hide hTU
  have HF := hide hF
  have HG := hide hG
  have HG80 := hide hG80
  clear hE hEl hT hU hTU hF hG hG80
  obtain ⟨hT0, hT1⟩ := hTr
  obtain ⟨hU0, hU1⟩ := hUr
  have t1 : (T + U == T + U) = true := by simp
  go_enter Tryd.func6, Tryd.ntmps6
  go_wp2
  go_quiet (fail)
  have b0 : Below w.heap.size w (w.drewN nq) := (Below.refl _ _).drewN _
  generalize w.drewN nq = w0 at *
  have HI : Hid (Ints .i32 (w0.alloc (.cells #[] 21)) a xs) := (hi.below b0).alloc _
  go_wp2_with (first
    | (at_builtin; refine wpList_cat elem22 rfl (.tmp 18) (.tmp 19) rfl rfl rfl (Own.empty w0 21 .i32) HI.out HX.out (fun h => HN0.out h) (by simp; omega) (by omega) ?_; intro v1 w1 hown1; have hi1' := (hi1.below b0).below hown1.bel; have hl3 : xs.length ≤ 20 := by rw [HX.out]; exact hp20)
    | (at_builtin; refine wpList_cat elem22 rfl (.tmp 20) (.tmp 21) rfl rfl rfl hown1 hi1' HX1.out (fun h => HN1.out h) (by simp; omega) (by omega) ?_; intro v2 w2 hown2))
  rw [List.nil_append, HE.out] at hown2
  obtain ⟨A2, c2, rfl, hi2, hc2, hA2, hm2⟩ := hown2.form2
  have b2 := b0.trans (hown2.bel.mono b0.size)
  have hel : E.length ≤ 40 := by rw [HEl.out]; omega
  clear hA2 hc2 hm2 hown2 hown1 hi1' hl3 b0
  go_wp2_with fail
  refine (known_any w2 (HS.out.below b2)).mono ?_
  rintro e w3 ⟨rfl, hb3⟩
  have b3 := b2.trans (hb3.mono b2.size)
  have hi3 := hi2.below hb3
  clear b2 hb3 hi2
  go_wp2_with fail
  refine (total_any A2 E.length c2 E w3 hi3 rfl (by omega) (HS.out.below b3)).mono ?_
  rintro e w4 ⟨rfl, hb4⟩
  rw [HTU.out]
  have b4 := b3.trans (hb4.mono b3.size)
  have hi4 := hi3.below hb4
  clear b3 hb4 hi3
  go_wp2_with fail
  refine (total_any a p cap xs w4 (hi.below b4) HX.out (by omega) (HS.out.below b4)).mono ?_
  rintro e w5 ⟨rfl, hb5⟩
  rw [HT.out]
  have b5 := b4.trans (hb5.mono b4.size)
  have hi5 := hi4.below hb5
  clear b4 hb5 hi4
  go_wp2_with fail
  refine (total_any a1 q cap1 ys w5 (hi1.below b5) HX1.out (by omega) (HS.out.below b5)).mono ?_
  rintro e w6 ⟨rfl, hb6⟩
  rw [HU.out]
  have b6 := b5.trans (hb6.mono b5.size)
  have hi6 := hi5.below hb6
  clear b5 hb6 hi5
  go_wp2_with fail
  refine (fit_any n A2 E.length c2 E w6 hi6 rfl (by omega) (HS.out.below b6)).mono ?_
  rintro e w7 ⟨rfl, hb7⟩
  rw [HG.out]
  have b7 := b6.trans (hb7.mono b6.size)
  have hi7 := hi6.below hb7
  clear b6 hb7 hi6
  go_wp2_with fail
  refine (fit_any n a p cap xs w7 (hi.below b7) HX.out (by omega) (HS.out.below b7)).mono ?_
  rintro e w8 ⟨rfl, hb8⟩
  rw [HF.out]
  have b8 := b7.trans (hb8.mono b7.size)
  have hi8 := hi7.below hb8
  clear b7 hb8 hi7
  by_cases h80 : n < 80
  · go_wp2
    go_ret
    exact ⟨rfl, b8⟩
  · have hGE : G = E.length := HG80.out (by omega)
    have t2 : ((G : Int) == (E.length : Int)) = true := by rw [hGE]; simp
    clear hGE
    go_wp2_with fail
    refine (fit_any n A2 E.length c2 E w8 hi8 rfl (by omega) (HS.out.below b8)).mono ?_
    rintro e w9 ⟨rfl, hb9⟩
    rw [HG.out]
    have b9 := b8.trans (hb9.mono b8.size)
    clear b8 hb9 hi8
    go_wp2
    go_ret
    exact ⟨rfl, b9⟩
end Go.Proofs.YtlbdfechhagimaaDoor
