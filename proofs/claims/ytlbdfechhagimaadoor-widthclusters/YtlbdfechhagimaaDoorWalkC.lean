/-
  The walk of the law WidthClusters.
-/
import Derived.Test.YtlbdfechhagimaaDoorKnown
import Derived.Test.YtlbdfechhagimaaDoorSame
namespace Go.Proofs.YtlbdfechhagimaaDoor
open Go.ChangeShapes Go.WideShapes Go.ChangeAt Go.RowKit
set_option linter.unusedVariables false

theorem clus_mem (l : List Int) : ∀ z ∈ clus l, z.length ≤ l.length ∧ ∀ x ∈ z, x ∈ l := by
  induction l with
  | nil => intro z hz; simp [clus] at hz
  | cons r l ih =>
    intro z hz
    unfold clus at hz
    have old : z ∈ clus l → z.length ≤ (r :: l).length ∧ ∀ x ∈ z, x ∈ r :: l := fun h => ⟨Nat.le_succ_of_le (ih z h).1, fun x hx => List.mem_cons_of_mem _ ((ih z h).2 x hx)⟩
    split at hz
    · exact old hz
    · rcases List.mem_cons.1 hz with rfl | h
      · have h1 : (l.takeWhile (fun x => wOf x == 0)).length ≤ l.length := (List.takeWhile_sublist _).length_le
        refine ⟨by simp only [List.length_cons]; omega, fun x hx => ?_⟩
        rcases List.mem_cons.1 hx with rfl | hx
        · exact List.mem_cons_self
        · exact List.mem_cons_of_mem _ ((List.takeWhile_sublist _).subset hx)
      · exact old h
theorem sums_append (a b : List (List Int)) : sums (a ++ b) = sums a + sums b := by
  induction a with
  | nil => simp [sums]
  | cons c l ih => simp [sums, ih]; omega
theorem sums_pos (a : List (List Int)) : 0 ≤ sums a := by
  induction a with
  | nil => simp [sums]
  | cons c l ih => have := (tot_range c).1; simp [sums]; omega
theorem sums_take (a : List (List Int)) (k : Nat) : 0 ≤ sums (a.take k) ∧ sums (a.take k) ≤ sums a := by
  have h := sums_append (a.take k) (a.drop k)
  rw [List.take_append_drop] at h
  have := sums_pos (a.take k)
  have := sums_pos (a.drop k)
  omega
theorem sums_snoc (a : List (List Int)) (k : Nat) (z : List Int) (h : a[k]? = some z) : sums (a.take (k + 1)) = sums (a.take k) + tot z := by
  obtain ⟨hk, e⟩ := List.getElem?_eq_some_iff.1 h
  rw [List.take_succ_eq_append_getElem hk, sums_append, e]; simp [sums]

set_option maxRecDepth 100000 in
set_option maxHeartbeats 2000000 in
theorem widthClusters_walk (a : Option Addr) (len cap : Nat) (zs : List Int) (w : World) (hrow : IsRow .i32 w a len cap zs) (hS : Spans w) :
    Calls Tryd.prog 4 #[.slice a len cap] w fun e w' => e = .returned (.bool true) ∧ Below w.heap.size w w' := by
  obtain ⟨hz, hl, hn0, hmax⟩ := hrow.len
  obtain ⟨n, hn, hn30, hnl⟩ : ∃ n : Nat, min (len : Int) 30 = (n : Int) ∧ n ≤ 30 ∧ n ≤ len := ⟨min len 30, by omega, by omega, by omega⟩
  have hi := hrow.ints.take n
  have hb := rn_of hrow.wf n
  have hx : (zs.take n).length = n := by rw [List.length_take]; omega
  have hmx := hmax
  unfold maxLen at hmax
  clear hrow
  have HX := hide hx
  have HS := hide hS
  have HMX := hide hmx
  clear hz hn0 hx hS hmx
  generalize zs.take n = xs at *
  have hxl : xs.length ≤ 30 := by rw [HX.out]; exact hn30
  go_enter Tryd.func4, Tryd.ntmps4
  go_wp2_with fail
  refine (clusters_any a n cap xs w hi HX.out (by omega) (by omega) HMX.out HS.out).mono ?_
  rintro e w1 ⟨v1, rfl, hv1⟩
  obtain ⟨A1, c1, rfl, hc1, hA1, f1⟩ := hv1.form
  have b1 := hv1.bel
  have HV1 := hide hv1
  clear hA1 f1 hv1
  obtain ⟨L, hL⟩ : ∃ L, clus xs = L := ⟨_, rfl⟩
  rw [hL]
  rw [hL] at hc1
  go_wp2_with fail
  refine (ints_any a n cap xs w1 (hi.below b1) HX.out (by omega) hb).mono ?_
  rintro e w2 ⟨v2, rfl, hv2⟩
  obtain ⟨A2, c2, rfl, hi2, hc2, hA2, hm2⟩ := hv2.form2
  have b2 := b1.trans (hv2.bel.mono b1.size)
  have HB2 := hide hv2.bel
  clear hA2 hc2 hm2 hv2 b1
  go_wp2_with fail
  refine (rclusters_any A2 xs.length c2 xs w2 hi2 rfl (by omega)).mono ?_
  rintro e w3 ⟨v3, rfl, hv3⟩
  obtain ⟨A3, c3, rfl, hc3, hA3, f3⟩ := hv3.form
  have b3 := b2.trans (hv3.bel.mono b2.size)
  have HV3 := hide hv3
  have g1 := ((HV1.out.later HB2.out).later hv3.bel).form
  obtain ⟨A1', c1', e1, -, -, f1⟩ := g1
  rw [hL] at f1 f3 hc3 e1
  rw [hL]
  cases e1
  have HF1 := hide f1
  have HF3 := hide f3
  clear f1 f3 hv3 hA3 hi2 b2
  have HMEM : Hid (∀ z ∈ L, z.length ≤ 30 ∧ Rn z) := by
    intro z hz
    rw [← hL] at hz
    have := clus_mem xs z hz
    exact ⟨by omega, fun x hx => hb x (this.2 x hx)⟩
  have HSUM : Hid (sums L = tot xs) := by unfold Hid; rw [← hL]; exact sums_clus xs
  have hLl : L.length ≤ 30 := by have := clus_len xs; rw [hL] at this; omega
  have htx : 0 ≤ tot xs ∧ tot xs ≤ 60 := by have := tot_range xs; omega
  obtain ⟨T, hT⟩ : ∃ T, tot xs = T := ⟨_, rfl⟩
  rw [hT] at htx HSUM
  have HT := hide hT
  clear hL hT
  obtain ⟨htx0, htx1⟩ := htx
  obtain ⟨M, hM⟩ : ∃ M, L.length = M := ⟨_, rfl⟩
  have HM := hide hM
  rw [hM] at hLl hc1 hc3 ⊢
  clear hM
  have hne : ((M : Int) != (M : Int)) = false := by simp
  have t5 : (T == T) = true := by simp
  go_wp2
  go_loopw [5, 6] (fun t i wr => ∃ k : Nat, k ≤ M ∧ i = .int .i64 k ∧ t = .int .i64 (sums (L.take k)) ∧ Below w3.heap.size w3 wr) (fun _ i _ => M - (intOf i).toNat)
  case atStart => exact ⟨0, Nat.zero_le _, rfl, rfl, Below.refl _ _⟩
  case round =>
    obtain ⟨k, hk, rfl, rfl, hbel⟩ := hrel
    obtain ⟨U, hU⟩ : ∃ U, sums (L.take k) = U := ⟨_, rfl⟩
    have hUr := sums_take L k
    rw [hU, HSUM.out] at hUr
    obtain ⟨hU0, hU1⟩ := hUr
    by_cases hlt : k < M
    · obtain ⟨z, hz⟩ : ∃ z, L[k]? = some z := ⟨_, List.getElem?_eq_getElem (by rw [HM.out]; exact hlt)⟩
      have HSN := hide (sums_snoc L k z hz)
      rw [hU] at HSN ⊢
      clear hU
      obtain ⟨G1, B1, d1, rfl, hG1, hcell1, hI1, -, -, -⟩ := HF1.out k z hz
      obtain ⟨G3, B3, d3, rfl, hG3, hcell3, hI3, -, -, -⟩ := HF3.out k z hz
      obtain ⟨hzl, hzr⟩ := HMEM.out z (List.mem_of_getElem? hz)
      rw [Nat.zero_add] at hcell1 hcell3
      have k1 : wr.cell? ⟨G1, k, none⟩ = some (.slice B1 z.length d1) := (hbel.cell (by exact hG1)).trans hcell1
      have k3 : wr.cell? ⟨G3, k, none⟩ = some (.slice B3 z.length d3) := (hbel.cell (by exact hG3)).trans hcell3
      have HI1 := hide (hI1.below hbel)
      have HI3 := hide (hI3.below hbel)
      have HZR := hide hzr
      clear hcell1 hcell3 hI1 hI3 hz hzr
      obtain ⟨V, hV⟩ : ∃ V, tot z = V := ⟨_, rfl⟩
      have hVr := tot_range z
      rw [hV] at hVr HSN
      obtain ⟨hV0, hV1⟩ := hVr
      have HVV := hide hV
      clear hV
      go_wp2
      go_quiet ((go_at_call 18; exact Calls.quiet_of (same_quiet B1 B3 z.length d1 d3 z _ (HI1.out.drewN _) (HI3.out.drewN _) rfl (by omega) HZR.out)))
      have hb0 : Below w3.heap.size w3 (wr.drewN nq) := hbel.drewN _
      have k1' : (wr.drewN nq).cell? ⟨G1, k, none⟩ = some (.slice B1 z.length d1) := k1
      have HI1' : Hid (Ints .i32 (wr.drewN nq) B1 z) := HI1.out.drewN _
      generalize wr.drewN nq = w4 at *
      clear k1 k3 HI1 HI3 hbel
      go_wp2_with fail
      refine (total_any B1 z.length d1 z w4 HI1'.out rfl (by omega) (HS.out.below (b3.trans (hb0.mono b3.size)))).mono ?_
      rintro e w5 ⟨rfl, hb5⟩
      rw [HVV.out]
      go_wp2
      go_roundw
      case rel => exact ⟨k + 1, by omega, by go_num, by rw [HSN.out], hb0.trans (hb5.mono hb0.size)⟩
      case measure => simp [intOf]; omega
    · have hU' : U = T := by rw [← hU, List.take_of_length_le (by rw [HM.out]; omega), HSUM.out]
      rw [hU]
      subst hU'
      clear hU
      have b4 := b3.trans (hbel.mono b3.size)
      clear hbel b3
      go_wp2_with fail
      refine (known_any wr (HS.out.below b4)).mono ?_
      rintro e w5 ⟨rfl, hb5⟩
      have b5 := b4.trans (hb5.mono b4.size)
      clear b4 hb5
      go_wp2_with fail
      refine (total_any a n cap xs w5 (hi.below b5) HX.out (by omega) (HS.out.below b5)).mono ?_
      rintro e w6 ⟨rfl, hb6⟩
      rw [HT.out]
      have b6 := b5.trans (hb6.mono b5.size)
      clear b5 hb6
      go_wp2
      go_ret
      exact ⟨rfl, b6⟩
end Go.Proofs.YtlbdfechhagimaaDoor
