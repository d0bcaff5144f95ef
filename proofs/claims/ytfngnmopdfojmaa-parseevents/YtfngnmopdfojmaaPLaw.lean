/-
  Contracts: the law's own words: whether events are the document's, an event as the document's; a number of an event (both).
-/
import Derived.Test.YtfngnmopdfojmaaPSame
import Derived.Test.YtfngnmopdfojmaaPRef
namespace Go.Proofs.Ytfngnmopdfojmaa
set_option maxRecDepth 100000
open Go.ChangeShapes Go.WideShapes Go.ChangeAt Go.RowKit
set_option linter.unusedVariables false

set_option maxHeartbeats 4000000 in
theorem lpsame_any (C C' : Nat) (A A' : Option Addr) (n m c d : Nat) (es fs : List Ev) (w : World) (ha : Evs C 56 .i32 w A es) (hb : Evs C' 58 .i64 w A' fs) (hC : C ≤ w.heap.size) (hC' : C' ≤ w.heap.size) (hn : es.length = n) (hm : fs.length = m) (hl : n ≤ 1000000) (hbd : ∀ e ∈ es, EvB e) :
    Calls Try.prog 8 #[.slice A n c, .slice A' m d] w (SaidIff (es = fs) w) := by
  have HN := hide hn
  have HM := hide hm
  have HA := hide ha
  have HB := hide hb
  have HBD := hide hbd
  clear hn hm ha hb hbd
  by_cases hnm : n = m
  · subst hnm
    go_enter Try.func8, Try.ntmps8
    go_wp2
    go_loopw [5, 6] (fun i _ wr => ∃ k : Nat, k ≤ n ∧ i = .int .i64 k ∧ Hid (∀ j, j < k → evAt es j = evAt fs j) ∧ Below w.heap.size w wr) (fun i _ _ => n - (intOf i).toNat)
    case atStart => exact ⟨0, Nat.zero_le _, rfl, (by unfold Hid; intro j hj; omega), Below.refl _ _⟩
    case round =>
      obtain ⟨k, hk, rfl, hall, hbel⟩ := hrel
      by_cases hlt : k < n
      · obtain ⟨b, off, A1, c1, rfl, lb, x0, x1, x2, -⟩ := (HA.out.below hbel hC).at (i := k) (by rw [HN.out]; exact hlt)
        obtain ⟨b2, off2, A2, c2, rfl, lb2, y0, y1, y2, -⟩ := (HB.out.below hbel hC').at (i := k) (by rw [HM.out]; exact hlt)
        have hev := HBD.out _ (evAt_mem es k (by rw [HN.out]; exact hlt))
        obtain ⟨u, hu⟩ : ∃ u, evAt es k = u := ⟨_, rfl⟩
        obtain ⟨v, hv⟩ : ∃ v, evAt fs k = v := ⟨_, rfl⟩
        rw [hu] at x0 x1 x2 hev
        rw [hv] at y0 y1 y2
        obtain ⟨r0, r1, hun⟩ := hev
        obtain ⟨nu, hnu⟩ : ∃ nu, u.n.length = nu := ⟨_, rfl⟩
        obtain ⟨nv, hnv⟩ : ∃ nv, v.n.length = nv := ⟨_, rfl⟩
        rw [hnu] at x2 hun
        rw [hnv] at y2
        have HU := hide hu
        have HV := hide hv
        have HNU := hide hnu
        have HNV := hide hnv
        have HBe := hide hbel
        have fin : ∀ (P : Prop), (es = fs → P) → ¬ P → ¬ es = fs := fun P h1 h2 h3 => h2 (h1 h3)
        by_cases q1 : u.k = v.k
        · by_cases q2 : u.r = v.r
          · by_cases q3 : nu = nv
            · subst q3
              have p1 : (u.k != v.k) = false := by simp [q1]
              have p2 : (u.r != v.r) = false := by simp [q2]
              have p3 : ((nu : Int) != (nu : Int)) = false := by simp
              have HQ : Hid (u.k = v.k ∧ u.r = v.r) := ⟨q1, q2⟩
              clear hu hv hnu hnv hbel fin q1 q2
              go_wp2
              go_quiet (fail)
              clear x0 x1 x2 y0 y1 y2 p1 p2 p3
              go_wp2
              go_loopw [6] (fun i wq => ∃ j : Nat, j ≤ nu ∧ i = .int .i64 j ∧ Hid (∀ t, t < j → u.n.getD t 0 = v.n.getD t 0) ∧ Below w.heap.size w wq) (fun i _ => nu - (intOf i).toNat)
              case atStart => exact ⟨0, Nat.zero_le _, rfl, (by unfold Hid; intro j hj; omega), HBe.out.drewN _⟩
              case round =>
                obtain ⟨j, hj, rfl, hall2, hbel2⟩ := hrel
                obtain ⟨b', off', A1', c1', e1, lb', x0, x1, x2, xi⟩ := (HA.out.below hbel2 hC).at (i := k) (by rw [HN.out]; exact hlt)
                obtain ⟨b2', off2', A2', c2', e2, lb2', y0, y1, y2, yi⟩ := (HB.out.below hbel2 hC').at (i := k) (by rw [HM.out]; exact hlt)
                cases e1
                cases e2
                rw [HU.out, HNU.out] at x2
                rw [HV.out, HNV.out] at y2
                rw [HU.out] at xi
                rw [HV.out] at yi
                have HBq := hide hbel2
                clear x0 x1 y0 y1 hbel2
                by_cases hjl : j < nu
                · obtain ⟨b3, off3, rfl, z0, lb3⟩ := xi.ints.at (i := j) (by rw [HNU.out]; exact hjl)
                  obtain ⟨b4, off4, rfl, z1, lb4⟩ := yi.ints.at (i := j) (by rw [HNV.out]; exact hjl)
                  obtain ⟨s, hs⟩ : ∃ s, u.n.getD j 0 = s := ⟨_, rfl⟩
                  obtain ⟨t, ht⟩ : ∃ t, v.n.getD j 0 = t := ⟨_, rfl⟩
                  rw [hs] at z0
                  rw [ht] at z1
                  by_cases hst : s = t
                  · have HALL : Hid (∀ i, i < j + 1 → u.n.getD i 0 = v.n.getD i 0) := by
                      unfold Hid
                      intro i hi
                      by_cases e : i = j
                      · rw [e, hs, ht, hst]
                      · exact hall2.out i (by omega)
                    have hq : (s != t) = false := by simp [hst]
                    clear hs ht hst hall2 xi yi
                    go_wp2
                    go_quiet (fail)
                    go_wp2
                    go_roundw
                    case rel => exact ⟨j + 1, by omega, by go_num, HALL, HBq.out.drewN _⟩
                    case measure => simp [intOf]; omega
                  · have HF : Hid (¬ es = fs) := by
                      unfold Hid; intro e
                      apply hst
                      rw [← hs, ← ht, ← HU.out, ← HV.out, e]
                    have hq : (s != t) = true := by simp [hst]
                    clear hs ht hst hall2 xi yi
                    go_wp2
                    go_quiet (fail)
                    go_wp2
                    go_ret
                    exact ⟨false, ⟨(fun h => by cases h), (fun h => absurd h HF.out)⟩, rfl, HBq.out.drewN _⟩
                · have HALL : Hid (∀ i, i < k + 1 → evAt es i = evAt fs i) := by
                    unfold Hid
                    intro i hi
                    by_cases e : i = k
                    · rw [e, HU.out, HV.out, Ev.same]
                      exact ⟨HQ.out.1, HQ.out.2, list_ext (by rw [HNU.out, HNV.out]) (fun i hi => hall2.out i (by rw [HNU.out] at hi; omega))⟩
                    · exact hall.out i (by omega)
                  clear xi yi hall hall2
                  go_wp2
                  go_roundw
                  case rel => exact ⟨k + 1, by omega, by go_num, HALL, HBq.out⟩
                  case measure => simp [intOf]; omega
            · have HF : Hid (¬ es = fs) := fin (nu = nv) (fun e => by rw [← HNU.out, ← HNV.out, ← HU.out, ← HV.out, e]) q3
              have p1 : (u.k != v.k) = false := by simp [q1]
              have p2 : (u.r != v.r) = false := by simp [q2]
              have p3 : ((nu : Int) != (nv : Int)) = true := by simp; omega
              clear hu hv hnu hnv hbel fin q1 q2 q3
              go_wp2
              go_quiet (fail)
              go_wp2
              go_ret
              exact ⟨false, ⟨(fun h => by cases h), (fun h => absurd h HF.out)⟩, rfl, HBe.out.drewN _⟩
          · have HF : Hid (¬ es = fs) := fin (u.r = v.r) (fun e => by rw [← HU.out, ← HV.out, e]) q2
            have p1 : (u.k != v.k) = false := by simp [q1]
            have p2 : (u.r != v.r) = true := by simp [q2]
            clear hu hv hnu hnv hbel fin q1 q2
            go_wp2
            go_quiet (fail)
            go_wp2
            go_ret
            exact ⟨false, ⟨(fun h => by cases h), (fun h => absurd h HF.out)⟩, rfl, HBe.out.drewN _⟩
        · have HF : Hid (¬ es = fs) := fin (u.k = v.k) (fun e => by rw [← HU.out, ← HV.out, e]) q1
          have p1 : (u.k != v.k) = true := by simp [q1]
          clear hu hv hnu hnv hbel fin q1
          go_wp2
          go_quiet (fail)
          go_wp2
          go_ret
          exact ⟨false, ⟨(fun h => by cases h), (fun h => absurd h HF.out)⟩, rfl, HBe.out.drewN _⟩
      · have HE : Hid (es = fs) := ev_ext (by rw [HN.out, HM.out]) (fun j hj => hall.out j (by rw [HN.out] at hj; omega))
        go_wp2
        go_ret
        exact ⟨true, ⟨(fun _ => HE.out), (fun _ => rfl)⟩, rfl, hbel⟩
  · have HF : Hid (¬ es = fs) := by unfold Hid; intro e; apply hnm; rw [← HN.out, ← HM.out, e]
    have hq : ((n : Int) != (m : Int)) = true := by simp; omega
    clear hnm
    go_enter Try.func8, Try.ntmps8
    go_wp2
    go_ret
    exact ⟨false, ⟨(fun h => by cases h), (fun h => absurd h HF.out)⟩, rfl, Below.refl _ _⟩

/-! ### an event as the document's -/
theorem retE {R : Ending → World → Prop} {a : Act} {w : World} {fn : Func} {s : Nat} {q : Nat} {x0 x1 x2 : Value} (hr : fn.results = #[.cell s 58]) (h4 : a.tmps.getD s undef = .pointer (some ⟨q, 0, none⟩)) (hd : a.defers = [])
    (hw : Whole w q 58 [x0, x1, x2]) (hR : R (.returned (.agg #[x0, x1, x2])) w) : bodyPost Try.prog fn R .ret a w := by
  have c0 : w.cell? ⟨q, 0, none⟩ = some x0 := hw.cell 0
  have c1 : w.cell? ⟨q, 1, none⟩ = some x1 := hw.cell 1
  have c2 : w.cell? ⟨q, 2, none⟩ = some x2 := hw.cell 2
  clear hw
  rw [Array.getD_eq_getD_getElem?] at h4
  exact bodyPost_ret (v := .agg #[x0, x1, x2]) (by simp [results, hr, h4, c0, c1, c2, go_sem]) hd hR
set_option maxHeartbeats 1000000 in
theorem lpof_any (k r : Int) (A : Option Addr) (n c : Nat) (w : World) (r0 : -2147483648 ≤ r) (r1 : r ≤ 2147483647) :
    Calls Try.prog 17 #[.agg #[.int .i64 k, .int .i32 r, .slice A n c]] w fun e w' => e = .returned (.agg #[.int .i64 k, .int .i64 r, .slice A n c]) ∧ Below w.heap.size w w' := by
  have HB : Hid (Below w.heap.size w ((w.alloc (.cells #[.int .i64 k, .int .i32 r, .slice A n c] 56)).alloc (.cells #[.int .i64 k, .int .i64 r, .slice A n c] 58))) := ((Below.refl _ _).alloc (Nat.le_refl _) _).alloc (by simp) _
  go_enter Try.func17, Try.ntmps17
  go_wp2
  exact retE Try.results17 rfl rfl (whole_snd w _ 58 [.int .i64 k, .int .i64 r, .slice A n c]) ⟨rfl, HB.out⟩
/-! ### a number of an event -/
def numP (ns : List Int) (at_ none_ : Int) : Int := if at_ < 0 ∨ (ns.length : Int) ≤ at_ ∨ ns.getD at_.toNat 0 = -1 then none_ else ns.getD at_.toNat 0
end Go.Proofs.Ytfngnmopdfojmaa
