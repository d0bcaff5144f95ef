/-
  Plain mathematics of layer 6, what follows: what is made of a right line is right; what is done twice. No Go text, no program.
-/
import Derived.Test.YtdeoeihbmdgipaaDoorLMath
namespace Go.Proofs.YtdeoeihbmdgipaaDoor
set_option linter.unusedVariables false

theorem alone_congr {l l' : List Cel} (h : ∀ i, wAt l i = wAt l' i) (i : Nat) : aloneC l i = aloneC l' i := by unfold aloneC; rw [h i, h (i + 1), h (i - 1)]
theorem alone_1 {l : List Cel} {i : Nat} (h : wAt l i = 1) : aloneC l i = false := by unfold aloneC; rw [if_neg (by omega), if_neg (by omega)]
theorem alone_of2 {l : List Cel} {i : Nat} (h : wAt l i = 2) (h1 : wAt l (i + 1) = 0) : aloneC l i = false := by unfold aloneC; rw [if_pos h]; simp [h1]
theorem alone_of0 {l : List Cel} {i : Nat} (h : wAt l i = 0) (h0 : i ≠ 0) (h1 : wAt l (i - 1) = 2) : aloneC l i = false := by unfold aloneC; rw [if_neg (by omega), if_pos h]; simp [h0, h1]
theorem mend_wAt (l : List Cel) (i : Nat) (hi : i < l.length) : wAt (mendC l) i = if aloneC l i = true then 1 else wAt l i := by
  rw [wAt_in _ _ (by rw [mend_len]; exact hi), mend_cAt l i hi, wAt_in l i hi]
  unfold mendAt
  split <;> rfl
theorem mend_wAt_out (l : List Cel) (i : Nat) (hi : l.length ≤ i) : wAt (mendC l) i = 9 := wAt_out _ _ (by rw [mend_len]; exact hi)
theorem mend_w2 {l : List Cel} {i : Nat} (h : wAt (mendC l) i = 2) : wAt l i = 2 ∧ aloneC l i = false := by
  have hi : i < l.length := by have := wAt_lt (l := mendC l) (i := i) (by omega); rwa [mend_len] at this
  rw [mend_wAt l i hi] at h
  cases q : aloneC l i
  · rw [q] at h; simp at h; exact ⟨h, rfl⟩
  · rw [q] at h; simp at h
theorem mend_w0 {l : List Cel} {i : Nat} (h : wAt (mendC l) i = 0) : wAt l i = 0 ∧ aloneC l i = false := by
  have hi : i < l.length := by have := wAt_lt (l := mendC l) (i := i) (by omega); rwa [mend_len] at this
  rw [mend_wAt l i hi] at h
  cases q : aloneC l i
  · rw [q] at h; simp at h; exact ⟨h, rfl⟩
  · rw [q] at h; simp at h
/-- What is mended has no half alone. -/
theorem mend_none (l : List Cel) (i : Nat) : aloneC (mendC l) i = false := by
  by_cases h2 : wAt (mendC l) i = 2
  · obtain ⟨h3, h4⟩ := mend_w2 h2
    have h5 := alone_2 h3 h4
    have hi1 : i + 1 < l.length := wAt_lt (by omega)
    refine alone_of2 h2 ?_
    rw [mend_wAt l _ hi1, alone_of0 h5 (by omega) h3]
    simp [h5]
  · by_cases h0 : wAt (mendC l) i = 0
    · obtain ⟨h3, h4⟩ := mend_w0 h0
      obtain ⟨h5, h6⟩ := alone_0 h3 h4
      have hi1 : i - 1 < l.length := wAt_lt (by omega)
      refine alone_of0 h0 h5 ?_
      rw [mend_wAt l _ hi1, alone_of2 h6 (by rw [show i - 1 + 1 = i by omega]; exact h3)]
      simp [h6]
    · unfold aloneC; rw [if_neg h2, if_neg h0]
theorem mend_stays {l : List Cel} (h : ∀ i, i < l.length → aloneC l i = false) : mendC l = l := by
  unfold mendC
  conv => rhs; rw [← tab_self l]
  exact tab_eq fun i hi => mendAt_no l i (h i hi)
theorem mend_twice (l : List Cel) : mendC (mendC l) = mendC l := mend_stays fun i _ => mend_none l i
theorem mend_right {l : List Cel} (h : rightL l = true) : mendC l = l := mend_stays fun i hi => ((okAt_iff l i).1 ((rightL_iff l).1 h i hi)).2.1
/-- All cells right, halves beside each other of one pen. -/
def fine (l : List Cel) : Prop := ∀ i, i < l.length → rightC (cAt l i) = true ∧ (wAt l i = 0 → i ≠ 0 → wAt l (i - 1) = 2 → (cAt l i).p = (cAt l (i - 1)).p)
theorem right_of_fine {l : List Cel} (h : fine l) : rightL (mendC l) = true := by
  rw [rightL_iff]
  intro i hi
  rw [mend_len] at hi
  rw [okAt_iff]
  refine ⟨?_, mend_none l i, fun h0 => ?_⟩
  · rw [mend_cAt l i hi]
    unfold mendAt
    split
    · exact right_blank (right_pen (h i hi).1)
    · exact (h i hi).1
  · obtain ⟨h3, h4⟩ := mend_w0 h0
    obtain ⟨h5, h6⟩ := alone_0 h3 h4
    have h7 := alone_of2 h6 (by rw [show i - 1 + 1 = i by omega]; exact h3)
    rw [mend_cAt l i hi, mend_cAt l (i - 1) (by omega), mendAt_no l i h4, mendAt_no l (i - 1) h7]
    exact (h i hi).2 h3 h5 h6
theorem fine_of_right {l : List Cel} (h : rightL l = true) {i : Nat} (hi : i < l.length) : rightC (cAt l i) = true ∧ (wAt l i = 0 → (cAt l i).p = (cAt l (i - 1)).p) := by
  obtain ⟨h1, _, h3⟩ := (okAt_iff l i).1 ((rightL_iff l).1 h i hi)
  exact ⟨h1, h3⟩
theorem tab_wAt (n : Nat) (f : Nat → Cel) (i : Nat) (h : i < n) : wAt (tab n f) i = (f i).w := by rw [wAt_in _ _ (by rw [tab_len]; exact h), tab_cAt n f i h]
theorem right_put {l : List Cel} {a : Int} {c : Cel} (h : rightL l = true) : rightL (putC l a c) = true := by
  unfold putC
  split
  · rename_i hok
    unfold putOk at hok
    rw [decide_eq_true_iff] at hok
    obtain ⟨hc, hw, ha, hl⟩ := hok
    have hw2 : c.w = 1 ∨ c.w = 2 := by rcases right_w hc with q | q | q; exact absurd q hw; exact .inl q; exact .inr q
    refine right_of_fine ?_
    unfold putTab
    intro i hi
    rw [tab_len] at hi
    rw [tab_cAt _ _ _ hi, tab_wAt _ _ _ hi]
    refine ⟨?_, fun h0 hi0 h2 => ?_⟩
    · split
      · exact hc
      · split
        · exact right_rest hc
        · exact (fine_of_right h hi).1
    · have hi1 : i - 1 < l.length := by omega
      rw [tab_wAt _ _ _ hi1] at h2
      rw [tab_cAt _ _ _ hi1]
      generalize a.toNat = k at *
      by_cases e1 : i = k
      · rw [if_pos e1] at h0; exact absurd h0 hw
      · rw [if_neg e1] at h0 ⊢
        by_cases e2 : i = k + 1 ∧ c.w = 2
        · rw [if_pos e2, if_pos (by omega)]; rfl
        · rw [if_neg e2] at h0 ⊢
          by_cases e3 : i - 1 = k
          · rw [if_pos e3] at h2; omega
          · rw [if_neg e3] at h2 ⊢
            by_cases e4 : i - 1 = k + 1 ∧ c.w = 2
            · rw [if_pos e4] at h2; cases h2
            · rw [if_neg e4]
              refine (fine_of_right h hi).2 ?_
              rw [wAt_in l i hi]; exact h0
  · exact h
theorem right_erase {l : List Cel} {x y : Int} {p : Pn} (h : rightL l = true) (hp : rightN p = true) : rightL (eraseC l x y p) = true := by
  refine right_of_fine ?_
  unfold eraseTab
  intro i hi
  rw [tab_len] at hi
  rw [tab_cAt _ _ _ hi, tab_wAt _ _ _ hi]
  refine ⟨?_, fun h0 hi0 h2 => ?_⟩
  · split
    · exact right_blank hp
    · exact (fine_of_right h hi).1
  · have hi1 : i - 1 < l.length := by omega
    rw [tab_wAt _ _ _ hi1] at h2
    rw [tab_cAt _ _ _ hi1]
    split at h0
    · cases h0
    · rename_i e1
      split at h2
      · cases h2
      · rename_i e2
        rw [if_neg e1, if_neg e2]
        refine (fine_of_right h hi).2 ?_
        rw [wAt_in l i hi]; exact h0
theorem right_fit {l : List Cel} {x : Int} (h : rightL l = true) : rightL (fitC l x) = true := by
  refine right_of_fine ?_
  unfold fitTab
  intro i hi
  rw [tab_len] at hi
  rw [tab_cAt _ _ _ hi, tab_wAt _ _ _ hi]
  refine ⟨?_, fun h0 hi0 h2 => ?_⟩
  · split
    · rename_i q; exact (fine_of_right h q).1
    · exact right_blank (by decide)
  · have hi1 : i - 1 < lenN x := by omega
    rw [tab_wAt _ _ _ hi1] at h2
    rw [tab_cAt _ _ _ hi1]
    split at h0
    · rename_i e1
      rw [if_pos e1, if_pos (by omega)]
      refine (fine_of_right h e1).2 ?_
      rw [wAt_in l i e1]; exact h0
    · cases h0
theorem mark_same (c : Cel) (r : Int) : (markC c r).1.w = c.w ∧ (markC c r).1.p = c.p := by
  unfold markC
  split
  · split
    · exact ⟨rfl, rfl⟩
    · split
      · exact ⟨rfl, rfl⟩
      · exact ⟨rfl, rfl⟩
  · exact ⟨rfl, rfl⟩
theorem right_alike {l l' : List Cel} (hl : l'.length = l.length) (h : ∀ i, i < l.length → (cAt l' i).w = (cAt l i).w ∧ (cAt l' i).p = (cAt l i).p ∧ (rightC (cAt l i) = true → rightC (cAt l' i) = true)) (hr : rightL l = true) : rightL l' = true := by
  have hw : ∀ i, wAt l' i = wAt l i := by
    intro i
    by_cases hi : i < l.length
    · rw [wAt_in l' i (by omega), wAt_in l i hi]; exact (h i hi).1
    · rw [wAt_out l' i (by omega), wAt_out l i (by omega)]
  rw [rightL_iff]
  intro i hi
  rw [hl] at hi
  obtain ⟨h1, h2, h3⟩ := (okAt_iff l i).1 ((rightL_iff l).1 hr i hi)
  rw [okAt_iff]
  refine ⟨(h i hi).2.2 h1, by rw [alone_congr hw]; exact h2, fun h0 => ?_⟩
  rw [hw] at h0
  obtain ⟨h5, h6⟩ := alone_0 h0 h2
  rw [(h i hi).2.1, (h (i - 1) (by omega)).2.1]
  exact h3 h0
theorem right_lmark {l : List Cel} {a r : Int} (h : rightL l = true) : rightL (lmarkC l a r).1 = true := by
  unfold lmarkC
  split
  · simp only
    refine right_alike (by simp) (fun i hi => ?_) h
    rw [set_tab, tab_cAt _ _ _ hi]
    split
    · rename_i e
      rw [e]
      exact ⟨(mark_same _ _).1, (mark_same _ _).2, right_mark⟩
    · exact ⟨rfl, rfl, fun q => q⟩
  · exact h

/-! ### twice -/
theorem fit_twice (l : List Cel) (x : Int) : fitC (fitC l x) x = fitC l x := by
  have e : fitTab (fitC l x) x = fitC l x := by
    have hl : (fitC l x).length = lenN x := by unfold fitC; rw [mend_len]; exact tab_len _ _
    unfold fitTab
    rw [← hl]
    conv => rhs; rw [← tab_self (fitC l x)]
    exact tab_eq fun i hi => by rw [if_pos hi]
  unfold fitC at e ⊢
  rw [e, mend_twice]
theorem erase_twice (l : List Cel) (x y : Int) (p : Pn) : eraseC (eraseC l x y p) x y p = eraseC l x y p := by
  have e : eraseTab (eraseC l x y p) x y p = eraseC l x y p := by
    have hl : (eraseTab l x y p).length = l.length := tab_len _ _
    have hl2 : (eraseC l x y p).length = l.length := by unfold eraseC; rw [mend_len]; exact hl
    conv => lhs; unfold eraseTab
    conv => rhs; rw [← tab_self (eraseC l x y p)]
    refine tab_eq fun i hi => ?_
    rw [hl2] at hi
    by_cases q : x ≤ (i : Int) ∧ (i : Int) < y
    · rw [if_pos q]
      have e1 : cAt (eraseTab l x y p) i = blankC p := by unfold eraseTab; rw [tab_cAt _ _ _ hi, if_pos q]
      have e2 : wAt (eraseTab l x y p) i = 1 := by rw [wAt_in _ _ (by rw [hl]; exact hi), e1]; rfl
      unfold eraseC
      rw [mend_cAt _ _ (by rw [hl]; exact hi), mendAt_no _ _ (alone_1 e2), e1]
    · rw [if_neg q]
  unfold eraseC at e ⊢
  rw [e, mend_twice]
theorem put_is {l : List Cel} {a : Int} {c : Cel} (h : putOk l a c = true) : putC l a c = mendC (putTab l a.toNat c) := by unfold putC; rw [if_pos h]
theorem put_twice (l : List Cel) (a : Int) (c d : Cel) (hc : c.w = 1) (hd : d.w = 1) (h1 : putOk l a c = true) (h2 : putOk (putC l a c) a d = true) (h3 : putOk l a d = true) : putC (putC l a c) a d = putC l a d := by
  have e1 : putC l a c = mendC (putTab l a.toNat c) := by unfold putC; rw [if_pos h1]
  have e2 : putC (putC l a c) a d = mendC (putTab (putC l a c) a.toNat d) := put_is h2
  have e3 : putC l a d = mendC (putTab l a.toNat d) := by unfold putC; rw [if_pos h3]
  rw [e2, e3, e1]
  generalize a.toNat = k
  have T : ∀ (m : List Cel) (q : Cel), q.w = 1 → ∀ i, i < m.length → cAt (putTab m k q) i = if i = k then q else cAt m i := by
    intro m q hq i hi
    unfold putTab
    rw [tab_cAt _ _ _ hi]
    by_cases e : i = k
    · rw [if_pos e, if_pos e]
    · rw [if_neg e, if_neg e, if_neg (by omega)]
  have TL : ∀ (m : List Cel) (q : Cel), (putTab m k q).length = m.length := fun m q => tab_len _ _
  have W12 : ∀ i, wAt (putTab l k c) i = wAt (putTab l k d) i := by
    intro i
    by_cases hi : i < l.length
    · rw [wAt_in _ _ (by rw [TL]; exact hi), wAt_in _ _ (by rw [TL]; exact hi), T l c hc i hi, T l d hd i hi]
      split
      · rw [hc, hd]
      · rfl
    · rw [wAt_out _ _ (by rw [TL]; omega), wAt_out _ _ (by rw [TL]; omega)]
  have hml : (mendC (putTab l k c)).length = l.length := by rw [mend_len, TL]
  have WA : ∀ i, wAt (putTab (mendC (putTab l k c)) k d) i = wAt (mendC (putTab l k c)) i := by
    intro i
    by_cases hi : i < l.length
    · rw [wAt_in _ _ (by rw [TL, hml]; exact hi), T _ d hd i (by rw [hml]; exact hi)]
      split
      · rename_i e
        have hk1 : wAt (putTab l k c) i = 1 := by rw [wAt_in _ _ (by rw [TL]; exact hi), T l c hc i hi, if_pos e, hc]
        rw [mend_wAt _ _ (by rw [TL]; exact hi), alone_1 hk1, hk1, hd]; rfl
      · rw [wAt_in _ _ (by rw [hml]; exact hi)]
    · rw [wAt_out _ _ (by rw [TL, hml]; omega), wAt_out _ _ (by rw [hml]; omega)]
  have NA : ∀ i, aloneC (putTab (mendC (putTab l k c)) k d) i = false := fun i => by rw [alone_congr WA]; exact mend_none _ i
  rw [mend_stays fun i _ => NA i]
  unfold mendC
  refine tab_is (by rw [TL, tab_len, TL, TL]) fun i hi => ?_
  rw [TL] at hi
  have hm2 : (tab (putTab l k c).length (mendAt (putTab l k c))).length = l.length := by rw [tab_len, TL]
  rw [T _ d hd i (by rw [hm2]; exact hi)]
  by_cases e : i = k
  · rw [if_pos e]
    have hk1 : wAt (putTab l k d) i = 1 := by rw [wAt_in _ _ (by rw [TL]; exact hi), T l d hd i hi, if_pos e, hd]
    rw [mendAt_no _ _ (alone_1 hk1), T l d hd i hi, if_pos e]
  · rw [if_neg e, tab_cAt _ _ _ (by rw [TL]; exact hi)]
    unfold mendAt
    rw [alone_congr W12, T l c hc i hi, T l d hd i hi]
    simp only [if_neg e]
end Go.Proofs.YtdeoeihbmdgipaaDoor
