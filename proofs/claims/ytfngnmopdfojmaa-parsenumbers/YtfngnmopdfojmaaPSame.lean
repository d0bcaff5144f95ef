/-
  Contracts: whether numbers, events, lists of events are the same (the program's).
-/
import Derived.Test.YtfngnmopdfojmaaPMem
namespace Go.Proofs.Ytfngnmopdfojmaa
set_option maxRecDepth 100000
open Go.ChangeShapes Go.WideShapes Go.ChangeAt Go.RowKit
set_option linter.unusedVariables false

/-- The call told whether P, and left all that was there. -/
def SaidIff (P : Prop) (w : World) (e : Ending) (w' : World) : Prop := ∃ bo : Bool, (bo = true ↔ P) ∧ e = .returned (.bool bo) ∧ Below w.heap.size w w'
theorem list_ext {x y : List Int} (hl : x.length = y.length) (h : ∀ j, j < x.length → x.getD j 0 = y.getD j 0) : x = y := by
  apply List.ext_getElem hl
  intro i h1 h2
  have := h i h1
  rw [List.getD_eq_getElem?_getD, List.getD_eq_getElem?_getD, List.getElem?_eq_getElem h1, List.getElem?_eq_getElem h2] at this
  simpa using this
theorem ev_ext {x y : List Ev} (hl : x.length = y.length) (h : ∀ j, j < x.length → evAt x j = evAt y j) : x = y := by
  apply List.ext_getElem hl
  intro i h1 h2
  have := h i h1
  unfold evAt at this
  rw [List.getD_eq_getElem?_getD, List.getD_eq_getElem?_getD, List.getElem?_eq_getElem h1, List.getElem?_eq_getElem h2] at this
  simpa using this
theorem evAt_mem (es : List Ev) (k : Nat) (h : k < es.length) : evAt es k ∈ es := by
  unfold evAt
  rw [List.getD_eq_getElem?_getD, List.getElem?_eq_getElem h]
  exact List.getElem_mem h
theorem Ev.same {a b : Ev} : a = b ↔ a.k = b.k ∧ a.r = b.r ∧ a.n = b.n := by
  cases a; cases b; simp

set_option maxHeartbeats 1000000 in
theorem equali_any (A C : Option Addr) (n m c d : Nat) (x y : List Int) (w : World) (ha : Ints .i64 w A x) (hb : Ints .i64 w C y) (hn : x.length = n) (hm : y.length = m) (hl : n ≤ 9223372036854775807) :
    Calls Try.prog 33 #[.slice A n c, .slice C m d] w (SaidIff (x = y) w) := by
  have HN := hide hn
  have HM := hide hm
  clear hn hm
  by_cases hnm : n = m
  · subst hnm
    go_enter Try.func33, Try.ntmps33
    go_wp2
    go_loopw [5, 13] (fun _ i wr => ∃ k : Nat, k ≤ n ∧ i = .int .i64 k ∧ Hid (∀ j, j < k → x.getD j 0 = y.getD j 0) ∧ Below w.heap.size w wr) (fun _ i _ => n - (intOf i).toNat)
    case atStart => exact ⟨0, Nat.zero_le _, rfl, (by unfold Hid; intro j hj; omega), Below.refl _ _⟩
    case round =>
      obtain ⟨k, hk, rfl, hall, hbel⟩ := hrel
      by_cases hlt : k < n
      · obtain ⟨b, off, rfl, hc, hb1⟩ := ha.at (i := k) (by rw [HN.out]; exact hlt)
        obtain ⟨b2, off2, rfl, hc2, hb2⟩ := hb.at (i := k) (by rw [HM.out]; exact hlt)
        rw [← hbel.cell (p := ⟨b, off + k, none⟩) hb1] at hc
        rw [← hbel.cell (p := ⟨b2, off2 + k, none⟩) hb2] at hc2
        obtain ⟨u, hu⟩ : ∃ u, x.getD k 0 = u := ⟨_, rfl⟩
        obtain ⟨v, hv⟩ : ∃ v, y.getD k 0 = v := ⟨_, rfl⟩
        rw [hu] at hc
        rw [hv] at hc2
        by_cases huv : u = v
        · have HALL : Hid (∀ j, j < k + 1 → x.getD j 0 = y.getD j 0) := by
            unfold Hid
            intro j hj
            by_cases e : j = k
            · rw [e, hu, hv, huv]
            · exact hall.out j (by omega)
          have hq : (u != v) = false := by simp [huv]
          have HB := hide hbel
          clear hu hv huv hall hbel
          go_wp2
          go_quiet (fail)
          go_wp2
          go_roundw
          case rel => exact ⟨k + 1, by omega, by go_num, HALL, HB.out.drewN _⟩
          case measure => simp [intOf]; omega
        · have HF : Hid (¬ x = y) := by unfold Hid; intro e; apply huv; rw [← hu, ← hv, e]
          have hq : (u != v) = true := by simp [huv]
          have HB := hide hbel
          clear hu hv huv hall hbel
          go_wp2
          go_quiet (fail)
          go_wp2
          go_ret
          exact ⟨false, ⟨(fun h => by cases h), (fun h => absurd h HF.out)⟩, rfl, HB.out.drewN _⟩
      · have HE : Hid (x = y) := list_ext (by rw [HN.out, HM.out]) (fun j hj => hall.out j (by rw [HN.out] at hj; omega))
        go_wp2
        go_ret
        exact ⟨true, ⟨(fun _ => HE.out), (fun _ => rfl)⟩, rfl, hbel⟩
  · have HF : Hid (¬ x = y) := by unfold Hid; intro e; apply hnm; rw [← HN.out, ← HM.out, e]
    have hq : ((n : Int) != (m : Int)) = true := by simp; omega
    clear hnm
    go_enter Try.func33, Try.ntmps33
    go_wp2
    go_ret
    exact ⟨false, ⟨(fun h => by cases h), (fun h => absurd h HF.out)⟩, rfl, Below.refl _ _⟩

set_option maxHeartbeats 1000000 in
theorem psame1_any (a b : Ev) (A C : Option Addr) (n m c d : Nat) (w : World) (ha : Ints .i64 w A a.n) (hb : Ints .i64 w C b.n) (hn : a.n.length = n) (hm : b.n.length = m) (hl : n ≤ 9223372036854775807) :
    Calls Try.prog 32 #[.agg #[.int .i64 a.k, .int .i32 a.r, .slice A n c], .agg #[.int .i64 b.k, .int .i32 b.r, .slice C m d]] w (SaidIff (a = b) w) := by
  have HB : Hid (Below w.heap.size w ((w.alloc (.cells #[.int .i64 a.k, .int .i32 a.r, .slice A n c] 56)).alloc (.cells #[.int .i64 b.k, .int .i32 b.r, .slice C m d] 56))) := ((Below.refl _ _).alloc (Nat.le_refl _) _).alloc (by simp) _
  by_cases h1 : a.k = b.k
  · by_cases h2 : a.r = b.r
    · obtain ⟨W, hW⟩ : ∃ W, ((w.alloc (.cells #[.int .i64 a.k, .int .i32 a.r, .slice A n c] 56)).alloc (.cells #[.int .i64 b.k, .int .i32 b.r, .slice C m d] 56)) = W := ⟨_, rfl⟩
      rw [hW] at HB
      have HI := hide (ha.below HB.out)
      have HJ := hide (hb.below HB.out)
      have HW := hide hW
      have HE : Hid (a.n = b.n ↔ a = b) := by unfold Hid; rw [Ev.same]; simp [h1, h2]
      have HN := hide hn
      have HM := hide hm
      have q1 : (a.k == b.k) = true := by simp [h1]
      have q2 : (a.r == b.r) = true := by simp [h2]
      clear ha hb hn hm hW h1 h2
      go_enter Try.func32, Try.ntmps32
      go_wp2_with fail
      rw [HW.out]
      refine (equali_any A C n m c d a.n b.n W HI.out HJ.out HN.out HM.out hl).mono ?_
      rintro e w1 ⟨bo, hbo, rfl, hb1⟩
      have HBO := hide hbo
      have HB1 := hide hb1
      clear hbo hb1
      go_wp2
      go_ret
      exact ⟨bo, HBO.out.trans HE.out, rfl, HB.out.trans (HB1.out.mono HB.out.size)⟩
    · have HF : Hid (¬ a = b) := by unfold Hid; rw [Ev.same]; simp [h2]
      have q1 : (a.k == b.k) = true := by simp [h1]
      have q2 : (a.r == b.r) = false := by simp [h2]
      clear ha hb hn hm h1 h2
      go_enter Try.func32, Try.ntmps32
      go_wp2
      go_ret
      exact ⟨false, ⟨(fun h => by cases h), (fun h => absurd h HF.out)⟩, rfl, HB.out⟩
  · have HF : Hid (¬ a = b) := by unfold Hid; rw [Ev.same]; simp [h1]
    have q1 : (a.k == b.k) = false := by simp [h1]
    clear ha hb hn hm h1
    go_enter Try.func32, Try.ntmps32
    go_wp2
    go_ret
    exact ⟨false, ⟨(fun h => by cases h), (fun h => absurd h HF.out)⟩, rfl, HB.out⟩

set_option maxHeartbeats 2000000 in
theorem equalfe_any (C : Nat) (A A' : Option Addr) (n m c d : Nat) (es fs : List Ev) (w : World) (ha : Evs C 56 .i32 w A es) (hb : Evs C 56 .i32 w A' fs) (hC : C ≤ w.heap.size) (hn : es.length = n) (hm : fs.length = m) (hl : n ≤ 1000000) (hbd : ∀ e ∈ es, EvB e) :
    Calls Try.prog 31 #[.slice A n c, .slice A' m d, .func (.func 32) #[] #[]] w (SaidIff (es = fs) w) := by
  have HN := hide hn
  have HM := hide hm
  have HA := hide ha
  have HB := hide hb
  have HBD := hide hbd
  clear hn hm ha hb hbd
  by_cases hnm : n = m
  · subst hnm
    go_enter Try.func31, Try.ntmps31
    go_wp2
    go_loopw [7, 8, 9, 17] (fun _ _ _ i wr => ∃ k : Nat, k ≤ n ∧ i = .int .i64 k ∧ Hid (∀ j, j < k → evAt es j = evAt fs j) ∧ Below w.heap.size w wr) (fun _ _ _ i _ => n - (intOf i).toNat)
    case atStart => exact ⟨0, Nat.zero_le _, rfl, (by unfold Hid; intro j hj; omega), Below.refl _ _⟩
    case round =>
      obtain ⟨k, hk, rfl, hall, hbel⟩ := hrel
      by_cases hlt : k < n
      · have hCr : C ≤ wr.heap.size := Nat.le_trans hC hbel.size
        obtain ⟨b, off, A1, c1, rfl, lb, x0, x1, x2, xi⟩ := (HA.out.below hbel hC).at (i := k) (by rw [HN.out]; exact hlt)
        obtain ⟨b2, off2, A2, c2, rfl, lb2, y0, y1, y2, yi⟩ := (HB.out.below hbel hC).at (i := k) (by rw [HM.out]; exact hlt)
        obtain ⟨u, hu⟩ : ∃ u, evAt es k = u := ⟨_, rfl⟩
        obtain ⟨v, hv⟩ : ∃ v, evAt fs k = v := ⟨_, rfl⟩
        rw [hu] at x0 x1 x2 xi
        rw [hv] at y0 y1 y2 yi
        obtain ⟨W, hW⟩ : ∃ W, ((wr.alloc (.cells #[.int .i64 u.k, .int .i32 u.r, .slice A1 u.n.length c1] 56)).alloc (.cells #[.int .i64 v.k, .int .i32 v.r, .slice A2 v.n.length c2] 56)) = W := ⟨_, rfl⟩
        have hbW : Below wr.heap.size wr W := by rw [← hW]; exact ((Below.refl _ _).alloc (Nat.le_refl _) _).alloc (by simp) _
        have HI := hide (xi.ints.below hbW)
        have HJ := hide (yi.ints.below hbW)
        have HW := hide hW
        have HU := hide hu
        have HV := hide hv
        have HBe : Hid (Below w.heap.size w W) := hbel.trans (hbW.mono hbel.size)
        obtain ⟨nu, hnu⟩ : ∃ nu, u.n.length = nu := ⟨_, rfl⟩
        obtain ⟨nv, hnv⟩ : ∃ nv, v.n.length = nv := ⟨_, rfl⟩
        rw [hnu] at x2 HW
        rw [hnv] at y2 HW
        have hlu : nu ≤ 9223372036854775807 := by
          rw [← hnu, ← HU.out]
          exact (HBD.out _ (evAt_mem es k (by rw [HN.out]; exact hlt))).2.2
        have HNU := hide hnu
        have HNV := hide hnv
        clear hbel hbW hW hu hv xi yi hnu hnv hCr
        go_wp2_with fail
        rw [HW.out]
        refine (psame1_any u v A1 A2 nu nv c1 c2 W HI.out HJ.out HNU.out HNV.out hlu).mono ?_
        rintro e w1 ⟨bo, hbo, rfl, hb1⟩
        have HBO := hide hbo
        have HB1 := hide (HBe.out.trans (hb1.mono HBe.out.size))
        clear hbo hb1
        cases bo
        · have HF : Hid (¬ es = fs) := by
            unfold Hid; intro e
            have := HBO.out.2 (by rw [← HU.out, ← HV.out, e])
            cases this
          go_wp2
          go_ret
          exact ⟨false, ⟨(fun h => by cases h), (fun h => absurd h HF.out)⟩, rfl, HB1.out⟩
        · have HALL : Hid (∀ j, j < k + 1 → evAt es j = evAt fs j) := by
            unfold Hid
            intro j hj
            by_cases e : j = k
            · rw [e, HU.out, HV.out, HBO.out.1 rfl]
            · exact hall.out j (by omega)
          go_wp2
          go_roundw
          case rel => exact ⟨k + 1, by omega, by go_num, HALL, HB1.out⟩
          case measure => simp [intOf]; omega
      · have HE : Hid (es = fs) := ev_ext (by rw [HN.out, HM.out]) (fun j hj => hall.out j (by rw [HN.out] at hj; omega))
        go_wp2
        go_ret
        exact ⟨true, ⟨(fun _ => HE.out), (fun _ => rfl)⟩, rfl, hbel⟩
  · have HF : Hid (¬ es = fs) := by unfold Hid; intro e; apply hnm; rw [← HN.out, ← HM.out, e]
    have hq : ((n : Int) != (m : Int)) = true := by simp; omega
    clear hnm
    go_enter Try.func31, Try.ntmps31
    go_wp2
    go_ret
    exact ⟨false, ⟨(fun h => by cases h), (fun h => absurd h HF.out)⟩, rfl, Below.refl _ _⟩
set_option maxHeartbeats 1000000 in
theorem psame_any (C : Nat) (A A' : Option Addr) (n m c d : Nat) (es fs : List Ev) (w : World) (ha : Evs C 56 .i32 w A es) (hb : Evs C 56 .i32 w A' fs) (hC : C ≤ w.heap.size) (hn : es.length = n) (hm : fs.length = m) (hl : n ≤ 1000000) (hbd : ∀ e ∈ es, EvB e) :
    Calls Try.prog 15 #[.slice A n c, .slice A' m d] w (SaidIff (es = fs) w) := by
  have HE := hide (equalfe_any C A A' n m c d es fs w ha hb hC hn hm hl hbd)
  clear ha hb hn hm
  go_enter Try.func15, Try.ntmps15
  go_wp2_with fail
  refine (HE.out).mono ?_
  rintro e w1 ⟨bo, hbo, rfl, hb1⟩
  have HBO := hide hbo
  have HB1 := hide hb1
  clear hbo hb1
  go_wp2
  go_ret
  exact ⟨bo, HBO.out, rfl, HB1.out⟩
end Go.Proofs.Ytfngnmopdfojmaa
