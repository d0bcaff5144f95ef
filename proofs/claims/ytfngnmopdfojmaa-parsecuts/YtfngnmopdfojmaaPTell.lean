/-
  Contracts: events, handed on by a closure; what is held, told; a byte for the stream (the program's).
-/
import Derived.Test.YtfngnmopdfojmaaPArgs2
import Derived.Test.YtfngnmopdfojmaaChainL
namespace Go.Proofs.Ytfngnmopdfojmaa
set_option maxRecDepth 100000
open Go.ChangeShapes Go.WideShapes Go.ChangeAt Go.RowKit
set_option linter.unusedVariables false

/-- The list behind a teller: the box gB points to the variable gL, which holds the events; all of it lies from B on. -/
structure Tel (B : Nat) (w : World) (gB gL : Nat) (es : List Ev) : Prop where
  box : Whole w gB 67 [.pointer (some ⟨gL, 0, none⟩)]
  var : ∃ v, Whole w gL 44 [v] ∧ OwnE 0 56 .i32 B w w v es
  geB : B ≤ gB
  geL : B ≤ gL
section
variable {B gB gL : Nat} {w w' : World} {es : List Ev}
theorem Tel.keep (h : Tel B w gB gL es) (h1 : Stays 67 w w') (h2 : Stays 44 w w') (h3 : Stays 3 w w') (h4 : Stays 56 w w') (hz : w.heap.size ≤ w'.heap.size) : Tel B w' gB gL es := by
  obtain ⟨v, hv, ho⟩ := h.var
  exact ⟨h1.whole h.box, ⟨v, h2.whole hv, ho.keep (fun b hb => absurd hb (by omega)) h3 h4 hz⟩, h.geB, h.geL⟩
theorem Tel.fr {g : Nat} {p : Ps} (h : Tel B w gB gL es) (hp : Pr w g p) (hf : Fr w.heap.size g w w') : Tel B w' gB gL es :=
  h.keep (hp.stays hf (by decide)) (hp.stays hf (by decide)) (hp.stays hf (by decide)) (hp.stays hf (by decide)) hf.size
theorem Tel.later (h : Tel B w gB gL es) (hb : Below w.heap.size w w') : Tel B w' gB gL es := h.keep (.of_below hb) (.of_below hb) (.of_below hb) (.of_below hb) hb.size
theorem Tel.le (h : Tel B w gB gL es) : B ≤ w.heap.size := by have := h.box.lt; have := h.geB; omega
end

/-- What handing an event on leaves: the events, and all that lies below B, and the blocks of other types. -/
structure Told (B : Nat) (w : World) (gB gL : Nat) (es : List Ev) (w' : World) : Prop where
  tel : Tel B w' gB gL es
  bel : Below B w w'
  pr : ∀ t, t ≠ 56 → t ≠ 44 → Stays t w w'
theorem Told.prs {B gB gL : Nat} {w w' : World} {es : List Ev} (h : Told B w gB gL es w') {g : Nat} {p : Ps} (hp : Pr w g p) : Pr w' g p := by
  obtain ⟨l, hw⟩ := hp.whole
  exact hp.same (h.pr 33 (by decide) (by decide) g _ hw)
set_option maxHeartbeats 2000000 in
theorem tell1_any (B gB gL : Nat) (es : List Ev) (w : World) (h : Tel B w gB gL es) (kd r : Int) (N : Option Addr) (n c : Nat) (ns : List Int) (hn : ns.length = n) (hi : IntsT 0 3 .i64 w N ns) (hl : es.length ≤ 100000) :
    Calls Try.prog 37 #[.int .i64 kd, .int .i32 r, .slice N n c, .pointer (some ⟨gB, 0, none⟩)] w fun e w' => e = .returned (.tuple #[]) ∧ Told B w gB gL (es ++ [⟨kd, r, ns⟩]) w' := by
  obtain ⟨v, hv, ho⟩ := h.var
  have d0 : w.drew.cell? ⟨gB, 0, none⟩ = some (.pointer (some ⟨gL, 0, none⟩)) := h.box.cell 0
  have d1 : w.drew.cell? ⟨gL, 0, none⟩ = some v := hv.cell 0
  have HO : Hid (OwnE 0 56 .i32 B w.drew w.drew v es) := ho.keep (fun _ _ => rfl) (.of_below ((Below.refl _ _).drewN 1)) (.of_below ((Below.refl _ _).drewN 1)) (Nat.le_refl _)
  have HI : Hid (IntsT 0 3 .i64 w.drew N ns) := hi
  have HB0 : Hid (Whole w.drew gB 67 [.pointer (some ⟨gL, 0, none⟩)]) := h.box
  have HL0 : Hid (Whole w.drew gL 44 [v]) := hv
  have HBw : Hid (Below B w w.drew) := (Below.refl _ _).drewN 1
  have HST : Hid (∀ t, Stays t w w.drew) := fun t => .of_below ((Below.refl _ _).drewN 1)
  have geB := h.geB
  have geL := h.geL
  have HN := hide hn
  have l0' : gB < w.drew.heap.size := h.box.lt
  have l1' : gL < w.drew.heap.size := hv.lt
  clear h hv ho hi hn
  go_enter Try.func37, Try.ntmps37
  go_wp2
  refine wp_region_chainL (fun w' => w'.cell? ⟨gB, 0, none⟩ = some (.pointer (some ⟨gL, 0, none⟩)) ∧ w'.cell? ⟨gL, 0, none⟩ = some v) 11 [(0, 4), (0, 5), (0, 6), (0, 7), (0, 0), (0, 1), (0, 2), (0, 3), (1, 8), (1, 9), (1, 10), (3, 11)] (by kernel_rfl) (by kernel_rfl) (by kernel_rfl) (fun _ _ _ _ _ h => h) ?_ ?_
  · exact ⟨d0, d1⟩
  generalize w.drew = wd at *
  refine chainL_take (v := ?_) (by simp only [List.getElem?_toArray, List.getElem?_cons_zero, List.getElem?_cons_succ]; rfl) (by rfl) (fun w hS => ?_) ?_
  rotate_left
  · go_simp <;> with_reducible rfl
  simp only [Act.put, List.setIfInBounds_toArray, List.set_cons_zero, List.set_cons_succ]
  refine chainL_take (v := ?_) (by simp only [List.getElem?_toArray, List.getElem?_cons_zero, List.getElem?_cons_succ]; rfl) (by rfl) (fun w hS => ?_) ?_
  rotate_left
  · go_simp <;> with_reducible rfl
  simp only [Act.put, List.setIfInBounds_toArray, List.set_cons_zero, List.set_cons_succ]
  refine chainL_take (v := ?_) (by simp only [List.getElem?_toArray, List.getElem?_cons_zero, List.getElem?_cons_succ]; rfl) (by rfl) (fun w hS => ?_) ?_
  rotate_left
  · go_simp <;> with_reducible rfl
  simp only [Act.put, List.setIfInBounds_toArray, List.set_cons_zero, List.set_cons_succ]
  refine chainL_take (v := ?_) (by simp only [List.getElem?_toArray, List.getElem?_cons_zero, List.getElem?_cons_succ]; rfl) (by rfl) (fun w hS => ?_) ?_
  rotate_left
  · go_simp <;> with_reducible rfl
  simp only [Act.put, List.setIfInBounds_toArray, List.set_cons_zero, List.set_cons_succ]
  refine chainL_take (v := ?_) (by simp only [List.getElem?_toArray, List.getElem?_cons_zero]; rfl) (by rfl) (fun w hS => ?_) ?_
  rotate_left
  · obtain ⟨s0, s1⟩ := hS; go_simp <;> with_reducible rfl
  simp only [Act.put, List.setIfInBounds_toArray, List.set_cons_zero, List.set_cons_succ]
  refine chainL_take (v := ?_) (by simp only [List.getElem?_toArray, List.getElem?_cons_zero, List.getElem?_cons_succ]; rfl) (by rfl) (fun w hS => ?_) ?_
  rotate_left
  · obtain ⟨s0, s1⟩ := hS; go_simp <;> with_reducible rfl
  simp only [Act.put, List.setIfInBounds_toArray, List.set_cons_zero, List.set_cons_succ]
  refine chainL_take (v := ?_) (by simp only [List.getElem?_toArray, List.getElem?_cons_zero, List.getElem?_cons_succ]; rfl) (by rfl) (fun w hS => ?_) ?_
  rotate_left
  · go_simp <;> with_reducible rfl
  simp only [Act.put, List.setIfInBounds_toArray, List.set_cons_zero, List.set_cons_succ]
  refine chainL_take (v := ?_) (by simp only [List.getElem?_toArray, List.getElem?_cons_zero, List.getElem?_cons_succ]; rfl) (by rfl) (fun w hS => ?_) ?_
  rotate_left
  · obtain ⟨s0, s1⟩ := hS; go_simp <;> with_reducible rfl
  simp only [Act.put, List.setIfInBounds_toArray, List.set_cons_zero, List.set_cons_succ]
  refine chainL_alone (by simp only [List.getElem?_toArray, List.getElem?_cons_zero, List.getElem?_cons_succ]; rfl) ?_
  intro K hK
  go_wp2
  refine hK.out _ _ (⟨(HB0.out.alloc _).cell 0, (HL0.out.alloc _).cell 0⟩) ?_
  clear hK K
  refine chainL_alone (by simp only [List.getElem?_toArray, List.getElem?_cons_zero, List.getElem?_cons_succ]; rfl) ?_
  intro K hK
  refine wpList_pushE elemEv kd r N c ns n HN.out HI.out (by rfl) (.tmp 10) (.tmp 15) rfl rfl rfl HO.out (by omega) (by omega) (by decide) ?_
  intro v' w1 hown st hb
  obtain ⟨A9, n9, c9, rfl⟩ := hown.slice
  have HB1 := hide ((st 67 (by decide)).whole (HB0.out.alloc _))
  have HL1 := hide ((st 44 (by decide)).whole (HL0.out.alloc _))
  go_wp2
  refine hK.out _ _ (⟨HB1.out.cell 0, HL1.out.cell 0⟩) ?_
  clear hK K
  have e1 : w1.cell? ⟨gL, 0, none⟩ = some v := HL1.out.cell 0
  have z1 := HL1.out.frozen 0
  have l2 := HL1.out.lt
  have HFIN : Hid (Told B w gB gL (es ++ [⟨kd, r, ns⟩]) (w1.setCell ⟨gL, 0, none⟩ (.slice A9 n9 c9))) := by
    refine ⟨⟨(Stays.put HL1.out (by decide)).whole HB1.out, ⟨_, HL1.out.put 0 _, hown.now.keep (fun _ hb => absurd hb (by omega)) (Stays.put HL1.out (by decide)) (Stays.put HL1.out (by decide)) (by simp [World.setCell])⟩, geB, geL⟩, ?_, fun t h1 h2 => (((HST.out t).trans (.of_below ((Below.refl _ _).alloc (Nat.le_refl _) _))).trans (st t h1)).trans (Stays.put HL1.out h2)⟩
    exact (((HBw.out.alloc (Nat.le_trans HO.out.le (Nat.le_refl _)) _).trans hb).setCell (p := ⟨gL, 0, none⟩) geL _)
  clear hown st hb HO HI HB0 HL0 HBw HST d0 d1
  refine chainL_alone (by simp only [List.getElem?_toArray, List.getElem?_cons_zero, List.getElem?_cons_succ]; rfl) ?_
  intro K hK
  go_wp2
  refine hK.out _ _ (⟨HB1.out.cell 0, HL1.out.cell 0⟩) ?_
  clear hK K
  refine chainL_late (by simp only [List.getElem?_toArray, List.getElem?_cons_zero, List.getElem?_cons_succ]; rfl) ?_
  intro K hK
  go_wp2
  refine hK.out _ _ ?_
  clear hK K
  refine chainL_nil ?_
  go_wp2
  exact bodyPost_end (v := .tuple #[]) (by simp [results, Try.results37]) rfl ⟨rfl, HFIN.out⟩

section
variable {B gB gL g : Nat} {w : World} {p : Ps} {es : List Ev}
set_option maxHeartbeats 2000000 in
theorem pend_any (h : Pr w g p) (ht : Tel B w gB gL es) (hg : g < B) (hl : es.length ≤ 10000) : Calls Try.prog 22 #[.pointer (some ⟨g, 0, none⟩), .func (.func 37) #[] #[.pointer (some ⟨gB, 0, none⟩)]] w fun e w' => e = .returned (.tuple #[]) ∧ Pr w' g ⟨p.st, p.n, []⟩ ∧ Tel B w' gB gL (es ++ brkE p.h) ∧ Fr B g w w' := by
  rw [brk_fl]
  obtain ⟨fl, hfl0⟩ : ∃ fl, flushed p.h = fl := ⟨_, rfl⟩
  have hfl : fl.length ≤ 1 := by rw [← hfl0]; unfold flushed; split <;> simp
  rw [hfl0]
  have HFL := hide hfl0
  have HT := hide ht
  have HP := hide h
  obtain ⟨l, ha, hs⟩ := h
  have HS := hide hs
  have HA := hide ha
  have lt := hs.lt
  clear ha hs ht hfl0
  go_enter Try.func22, Try.ntmps22
  go_wp2_with fail
  refine (flush_any g p.h w HS.out).mono ?_
  rintro e w1 ⟨v, rfl, hov, hs1, hf1⟩
  rw [HFL.out] at hov
  obtain ⟨A, c, rfl, hi1, -, -, -⟩ := hov.typed (C := 0)
  have HT1 := hide (HT.out.fr HP.out hf1)
  have HP1 : Hid (Pr w1 g ⟨p.st, p.n, []⟩) := ⟨l, HA.out, hs1⟩
  have HF1 : Hid (Fr B g w w1) := hf1.less HT.out.le
  have HI1 := hide hi1
  obtain ⟨m, hm⟩ : ∃ m, fl.length = m := ⟨_, rfl⟩
  rw [hm]
  rw [hm] at hfl
  have HM := hide hm
  clear hov hs1 hf1 hi1 hm
  go_wp2
  go_loopw [5, 11] (fun _ i wr => ∃ k : Nat, k ≤ m ∧ i = .int .i64 k ∧ Tel B wr gB gL (es ++ prE (fl.take k)) ∧ Pr wr g ⟨p.st, p.n, []⟩ ∧ Fr B g w wr ∧ IntsT 0 21 .i32 wr A fl) (fun _ i _ => m - (intOf i).toNat)
  case atStart => exact ⟨0, Nat.zero_le _, rfl, by rw [List.take_zero]; simpa [prE] using HT1.out, HP1.out, HF1.out, HI1.out⟩
  case round =>
    obtain ⟨k, hk, rfl, ht, hp, hf, hi⟩ := hrel
    by_cases hlt : k < m
    · obtain ⟨b, off, rfl, hc, hb0⟩ := hi.ints.at (i := k) (by rw [HM.out]; exact hlt)
      obtain ⟨r, hr⟩ : ∃ r, fl.getD k 0 = r := ⟨_, rfl⟩
      rw [hr] at hc
      have HTK := hide (take_snoc fl k r (by rw [HM.out]; exact hlt) hr)
      have hlk : (es ++ prE (fl.take k)).length ≤ 100000 := by
        rw [List.length_append, prE, List.length_map, List.length_take]; omega
      have HT := hide ht
      have HP := hide hp
      have HF := hide hf
      have HI := hide hi
      clear ht hp hf hi hr
      go_wp2_with fail
      refine (tell1_any B gB gL (es ++ prE (fl.take k)) wr HT.out 1 r none 0 0 [] rfl .nil hlk).mono ?_
      rintro e w2 ⟨rfl, hto⟩
      go_wp2
      go_roundw
      case rel =>
        refine ⟨k + 1, by omega, by go_num, ?_, hto.prs HP.out, HF.out.trans (Fr.of_below hto.bel), HI.out.keep (fun _ hb => absurd hb (by omega)) (hto.pr 21 (by decide) (by decide))⟩
        rw [HTK.out]
        have e : es ++ prE (fl.take k ++ [r]) = es ++ prE (fl.take k) ++ [⟨1, r, []⟩] := by simp [prE]
        rw [e]
        exact hto.tel
      case measure => simp [intOf]; omega
    · have HTK : Hid (fl.take k = fl) := by unfold Hid; exact List.take_of_length_le (by rw [HM.out]; omega)
      rw [HTK.out] at ht
      have HT := hide ht
      have HP := hide hp
      have HF := hide hf
      clear ht hp hf hi
      go_wp2
      exact bodyPost_end (v := .tuple #[]) (by simp [results, Try.results22]) rfl ⟨rfl, HP.out, HT.out, HF.out⟩
set_option maxHeartbeats 2000000 in
theorem ptake_any (h : Pr w g p) (hok : PsOk p) (ht : Tel B w gB gL es) (hg : g < B) (hl : es.length ≤ 10000) (b : Int) (b0 : 0 ≤ b) (b1 : b ≤ 255) : Calls Try.prog 24 #[.pointer (some ⟨g, 0, none⟩), .int .u8 b, .func (.func 37) #[] #[.pointer (some ⟨gB, 0, none⟩)]] w fun e w' => e = .returned (.tuple #[]) ∧ Pr w' g ⟨p.st, p.n, (cut (p.h ++ [b])).2⟩ ∧ Tel B w' gB gL (es ++ prE (cut (p.h ++ [b])).1) ∧ Fr B g w w' := by
  obtain ⟨w0, hw0⟩ : ∃ w0, w.alloc (.cells #[.int .u8 b] 5) = w0 := ⟨_, rfl⟩
  have hfl : (cut (p.h ++ [b])).1.length ≤ 4 := by have h1 := cut_len (p.h ++ [b]); have h2 := hok.len; rw [List.length_append] at h1; simp at h1; omega
  obtain ⟨fl, hh, hcut⟩ : ∃ fl hh, cut (p.h ++ [b]) = (fl, hh) := ⟨_, _, rfl⟩
  rw [hcut] at hfl
  rw [hcut]
  simp only at hfl ⊢
  have HCUT := hide hcut
  have hb0 : Below w.heap.size w w0 := by rw [← hw0]; exact (Below.refl _ _).alloc (Nat.le_refl _) _
  have HI0 : Hid (Ints .u8 w0 (some ⟨w.heap.size, 0, none⟩) [b]) := by unfold Hid; rw [← hw0]; exact (IntsT.new (C := 0) (k := .u8) w 5 [b]).ints
  have HB0 := hide hb0
  have HT := hide (ht.later hb0)
  have HP := hide (h.later hb0)
  have hle := ht.le
  obtain ⟨l, ha, hs⟩ := h.later hb0
  have HS := hide hs
  have HA := hide ha
  have HOK := hide hok
  have hby : Byte [b] := by intro x hx; simp at hx; omega
  have lt := h.lt
  have HW0 := hide hw0
  clear ha hs ht hb0 h hok hw0 hcut
  go_enter Try.func24, Try.ntmps24
  go_wp2_with fail
  rw [HW0.out]
  refine (feed_any g p.h [b] (some ⟨w.heap.size, 0, none⟩) 1 1 w0 HS.out HOK.out.held HOK.out.byte hby HI0.out rfl (by omega) (by intro ad e _; cases e; simp; omega)).mono ?_
  rintro e w1 ⟨v, rfl, hov, hs1, hf1⟩
  rw [HCUT.out] at hov hs1
  simp only at hov hs1
  obtain ⟨A, c, rfl, hi1, -, -, -⟩ := hov.typed (C := 0)
  have HT1 := hide (HT.out.fr HP.out hf1)
  have HP1 : Hid (Pr w1 g ⟨p.st, p.n, hh⟩) := ⟨l, HA.out, hs1⟩
  have HF1 : Hid (Fr B g w w1) := (Fr.of_below (HB0.out.mono hle)).trans (hf1.less (Nat.le_trans hle HB0.out.size))
  have HI1 := hide hi1
  obtain ⟨m, hm⟩ : ∃ m, fl.length = m := ⟨_, rfl⟩
  rw [hm]
  rw [hm] at hfl
  have HM := hide hm
  clear hov hs1 hf1 hi1 hm
  go_wp2
  go_loopw [7, 15] (fun _ i wr => ∃ k : Nat, k ≤ m ∧ i = .int .i64 k ∧ Tel B wr gB gL (es ++ prE (fl.take k)) ∧ Pr wr g ⟨p.st, p.n, hh⟩ ∧ Fr B g w wr ∧ IntsT 0 21 .i32 wr A fl) (fun _ i _ => m - (intOf i).toNat)
  case atStart => exact ⟨0, Nat.zero_le _, rfl, by rw [List.take_zero]; simpa [prE] using HT1.out, HP1.out, HF1.out, HI1.out⟩
  case round =>
    obtain ⟨k, hk, rfl, ht, hp, hf, hi⟩ := hrel
    by_cases hlt : k < m
    · obtain ⟨b, off, rfl, hc, hb0⟩ := hi.ints.at (i := k) (by rw [HM.out]; exact hlt)
      obtain ⟨r, hr⟩ : ∃ r, fl.getD k 0 = r := ⟨_, rfl⟩
      rw [hr] at hc
      have HTK := hide (take_snoc fl k r (by rw [HM.out]; exact hlt) hr)
      have hlk : (es ++ prE (fl.take k)).length ≤ 100000 := by
        rw [List.length_append, prE, List.length_map, List.length_take]; omega
      have HT := hide ht
      have HP := hide hp
      have HF := hide hf
      have HI := hide hi
      clear ht hp hf hi hr
      go_wp2_with fail
      refine (tell1_any B gB gL (es ++ prE (fl.take k)) wr HT.out 1 r none 0 0 [] rfl .nil hlk).mono ?_
      rintro e w2 ⟨rfl, hto⟩
      go_wp2
      go_roundw
      case rel =>
        refine ⟨k + 1, by omega, by go_num, ?_, hto.prs HP.out, HF.out.trans (Fr.of_below hto.bel), HI.out.keep (fun _ hb => absurd hb (by omega)) (hto.pr 21 (by decide) (by decide))⟩
        rw [HTK.out]
        have e : es ++ prE (fl.take k ++ [r]) = es ++ prE (fl.take k) ++ [⟨1, r, []⟩] := by simp [prE]
        rw [e]
        exact hto.tel
      case measure => simp [intOf]; omega
    · have HTK : Hid (fl.take k = fl) := by unfold Hid; exact List.take_of_length_le (by rw [HM.out]; omega)
      rw [HTK.out] at ht
      have HT := hide ht
      have HP := hide hp
      have HF := hide hf
      clear ht hp hf hi
      go_wp2
      exact bodyPost_end (v := .tuple #[]) (by simp [results, Try.results24]) rfl ⟨rfl, HP.out, HT.out, HF.out⟩
set_option maxHeartbeats 1000000 in
theorem pholds_any (h : Pr w g p) (bo : Bool) (hbo : decide (p.h ≠ []) = bo) : Calls Try.prog 29 #[.pointer (some ⟨g, 0, none⟩)] w (Said bo w) := by
  obtain ⟨l, ha, hs⟩ := h
  have HS := hide hs
  have lt := hs.lt
  have HD : Hid (decide ((0 : Int) < (p.h.length : Int)) = bo) := by
    unfold Hid; rw [← hbo, Bool.eq_iff_iff]; simp only [decide_eq_true_iff]; rw [ne_eq, ← List.length_eq_zero_iff]; omega
  clear hs ha hbo
  go_enter Try.func29, Try.ntmps29
  go_wp2_with fail
  refine (held_any g p.h w HS.out).mono ?_
  rintro e w1 ⟨v, rfl, hov⟩
  obtain ⟨A, c, rfl, -, -, -, -⟩ := hov.form2
  have HB := hide hov.bel
  clear hov HS
  generalize p.h.length = n at *
  go_wp2
  go_ret
  exact ⟨ret_bool (by have := HD.out; simpa using this), HB.out⟩
set_option maxHeartbeats 1000000 in
theorem prest_any (h : Pr w g p) (bo : Bool) (hbo : restP p = bo) : Calls Try.prog 10 #[.pointer (some ⟨g, 0, none⟩)] w (Said bo w) := by
  have c1 := h.st
  have lt := h.lt
  have HP := hide h
  clear h
  by_cases h0 : p.st = 0
  · rw [h0] at c1
    obtain ⟨b1, hb1⟩ : ∃ b1, decide (p.h ≠ []) = b1 := ⟨_, rfl⟩
    have HR : Hid (bo = !b1) := by unfold Hid; rw [← hbo, ← hb1]; unfold restP; rw [h0]; simp
    have HB1 := hide hb1
    clear hb1 hbo h0
    go_enter Try.func10, Try.ntmps10
    go_wp2_with fail
    refine (pholds_any HP.out b1 HB1.out).mono ?_
    rintro e w1 ⟨rfl, hb⟩
    have HB := hide hb
    clear hb
    go_wp2
    go_ret
    exact ⟨ret_bool (by rw [HR.out]), HB.out⟩
  · obtain rfl : bo = false := by rw [← hbo]; unfold restP; simp [h0]
    have hq : (p.st == 0) = false := by simp [h0]
    clear hbo h0
    generalize p.st = st at *
    go_enter Try.func10, Try.ntmps10
    go_wp2
    go_ret
    exact ⟨rfl, Below.refl _ _⟩
end
end Go.Proofs.Ytfngnmopdfojmaa
