/-
  Contracts: events, handed on by a closure; what is held, told; a byte for the stream (the program's).
  Contracts: a parser's bytes (the program's).
  Contracts of the document's own answers, on: beginnings, the scalar of just some bytes.
  Contracts of the document's own answers, on: the first scalar, all of them, what is held, the bytes of all.
  Contracts of the document's own answers, on: all scalars, what is held, the bytes of all; numbers of runes; what is the same.
  Contracts of the document's own answers: what bytes begin with, told with the blocks' types; numbers, a digit more; the first eight; what is held, told.
-/
import Derived.Test.YtkijclgbpbhglaaGreatDoorQa16
import Derived.Test.YtkijclgbpbhglaaGreatDoorQa9
import Derived.Test.YtkijclgbpbhglaaGreatDoorQa12
import Derived.Test.YtkijclgbpbhglaaGreatDoorQa4
import Derived.Test.YtkijclgbpbhglaaGreatDoorQa8
import Derived.Test.YtkijclgbpbhglaaGreatDoorQa2
import Derived.Test.YtkijclgbpbhglaaGreatDoorQa14
namespace Go.Proofs.YtkijclgbpbhglaaGreatDoor
set_option maxRecDepth 100000
open Go.ChangeShapes Go.WideShapes Go.ChangeAt Go.RowKit
set_option linter.unusedVariables false

/-- The list behind a teller: the box gB points to the variable gL, which holds the events; all of it lies from B on. -/
structure Tel (B : Nat) (w : World) (gB gL : Nat) (es : List Ev) : Prop where
  box : Whole w gB 142 [.pointer (some ⟨gL, 0, none⟩)]
  var : ∃ v, Whole w gL 54 [v] ∧ OwnE 0 56 .i32 B w w v es
  geB : B ≤ gB
  geL : B ≤ gL
section
variable {B gB gL : Nat} {w w' : World} {es : List Ev}
theorem Tel.keep (h : Tel B w gB gL es) (h1 : Stays 142 w w') (h2 : Stays 54 w w') (h3 : Stays 3 w w') (h4 : Stays 56 w w') (hz : w.heap.size ≤ w'.heap.size) : Tel B w' gB gL es := by
  obtain ⟨v, hv, ho⟩ := h.var
  exact ⟨h1.whole h.box, ⟨v, h2.whole hv, ho.keep (fun b hb => absurd hb (by omega)) h3 h4 hz⟩, h.geB, h.geL⟩
theorem Tel.fr {g : Nat} {p : Ps} (h : Tel B w gB gL es) (hp : Pr w g p) (hf : Fr w.heap.size g w w') : Tel B w' gB gL es :=
  h.keep (hp.stays hf (by decide)) (hp.stays hf (by decide)) (hp.stays hf (by decide)) (hp.stays hf (by decide)) hf.size
theorem Tel.later (h : Tel B w gB gL es) (hb : Below w.heap.size w w') : Tel B w' gB gL es := h.keep (.of_below hb) (.of_below hb) (.of_below hb) (.of_below hb) hb.size
theorem Tel.le (h : Tel B w gB gL es) : B ≤ w.heap.size := by have := h.box.lt; have := h.geB; omega
end

/-- What handing an event on leaves: the events, and all that lies below B, and the blocks of other types. -/
structure Told (B : Nat) (w : World) (gB gL : Nat) (es : List Ev) (w' : World) : Prop where
  tel : Tel B w' gB gL es
  bel : Below B w w'
  pr : ∀ t, t ≠ 56 → t ≠ 54 → Stays t w w'
theorem Told.prs {B gB gL : Nat} {w w' : World} {es : List Ev} (h : Told B w gB gL es w') {g : Nat} {p : Ps} (hp : Pr w g p) : Pr w' g p := by
  obtain ⟨l, hw⟩ := hp.whole
  exact hp.same (h.pr 93 (by decide) (by decide) g _ hw)
set_option maxHeartbeats 2000000 in
theorem tell1_any (B gB gL : Nat) (es : List Ev) (w : World) (h : Tel B w gB gL es) (kd r : Int) (N : Option Addr) (n c : Nat) (ns : List Int) (hn : ns.length = n) (hi : IntsT 0 3 .i64 w N ns) (hl : es.length ≤ 100000) :
    Calls Tryz.prog 132 #[.int .i64 kd, .int .i32 r, .slice N n c, .pointer (some ⟨gB, 0, none⟩)] w fun e w' => e = .returned (.tuple #[]) ∧ Told B w gB gL (es ++ [⟨kd, r, ns⟩]) w' := by
  obtain ⟨v, hv, ho⟩ := h.var
  have d0 : w.drew.cell? ⟨gB, 0, none⟩ = some (.pointer (some ⟨gL, 0, none⟩)) := h.box.cell 0
  have d1 : w.drew.cell? ⟨gL, 0, none⟩ = some v := hv.cell 0
  have HO : Hid (OwnE 0 56 .i32 B w.drew w.drew v es) := ho.keep (fun _ _ => rfl) (.of_below ((Below.refl _ _).drewN 1)) (.of_below ((Below.refl _ _).drewN 1)) (Nat.le_refl _)
  have HI : Hid (IntsT 0 3 .i64 w.drew N ns) := hi
  have HB0 : Hid (Whole w.drew gB 142 [.pointer (some ⟨gL, 0, none⟩)]) := h.box
  have HL0 : Hid (Whole w.drew gL 54 [v]) := hv
  have HBw : Hid (Below B w w.drew) := (Below.refl _ _).drewN 1
  have HST : Hid (∀ t, Stays t w w.drew) := fun t => .of_below ((Below.refl _ _).drewN 1)
  have geB := h.geB
  have geL := h.geL
  have HN := hide hn
  have l0' : gB < w.drew.heap.size := h.box.lt
  have l1' : gL < w.drew.heap.size := hv.lt
  clear h hv ho hi hn
  go_enter Tryz.func132, Tryz.ntmps132
  go_wp2
  refine wp_region_chainL (fun w' => w'.cell? ⟨gB, 0, none⟩ = some (.pointer (some ⟨gL, 0, none⟩)) ∧ w'.cell? ⟨gL, 0, none⟩ = some v) 11 [(0, 4), (0, 5), (0, 6), (0, 7), (0, 0), (0, 1), (0, 2), (0, 3), (1, 8), (1, 9), (1, 10), (3, 11)] (by kernel_rfl) (by kernel_rfl) (by kernel_rfl) (fun _ _ _ _ _ h => h) ?_ ?_
  · exact ⟨d0, d1⟩
  generalize w.drew = wd at *
  refine chainL_take (v := ?_) (by simp only [List.getElem?_toArray, List.getElem?_cons_zero, List.getElem?_cons_succ]; rfl) (by rfl) (fun w hS => ?_) ?_
  rotate_left
  · go_simp <;> with_reducible rfl
  simp only [Act.put, List.setIfInBounds_toArray, List.set_cons_zero, List.set_cons_succ]
  refine chainL_take (v := ?_) (by simp only [List.getElem?_toArray, List.getElem?_cons_zero, List.getElem?_cons_succ]; rfl) (by rfl) (fun w hS => ?_) ?_
  rotate_left
  · go_simp <;> with_reducible rfl
  simp only [Act.put, List.setIfInBounds_toArray, List.set_cons_zero, List.set_cons_succ]
  refine chainL_take (v := ?_) (by simp only [List.getElem?_toArray, List.getElem?_cons_zero, List.getElem?_cons_succ]; rfl) (by rfl) (fun w hS => ?_) ?_
  rotate_left
  · go_simp <;> with_reducible rfl
  simp only [Act.put, List.setIfInBounds_toArray, List.set_cons_zero, List.set_cons_succ]
  refine chainL_take (v := ?_) (by simp only [List.getElem?_toArray, List.getElem?_cons_zero, List.getElem?_cons_succ]; rfl) (by rfl) (fun w hS => ?_) ?_
  rotate_left
  · go_simp <;> with_reducible rfl
  simp only [Act.put, List.setIfInBounds_toArray, List.set_cons_zero, List.set_cons_succ]
  refine chainL_take (v := ?_) (by simp only [List.getElem?_toArray, List.getElem?_cons_zero]; rfl) (by rfl) (fun w hS => ?_) ?_
  rotate_left
  · obtain ⟨s0, s1⟩ := hS; go_simp <;> with_reducible rfl
  simp only [Act.put, List.setIfInBounds_toArray, List.set_cons_zero, List.set_cons_succ]
  refine chainL_take (v := ?_) (by simp only [List.getElem?_toArray, List.getElem?_cons_zero, List.getElem?_cons_succ]; rfl) (by rfl) (fun w hS => ?_) ?_
  rotate_left
  · obtain ⟨s0, s1⟩ := hS; go_simp <;> with_reducible rfl
  simp only [Act.put, List.setIfInBounds_toArray, List.set_cons_zero, List.set_cons_succ]
  refine chainL_take (v := ?_) (by simp only [List.getElem?_toArray, List.getElem?_cons_zero, List.getElem?_cons_succ]; rfl) (by rfl) (fun w hS => ?_) ?_
  rotate_left
  · go_simp <;> with_reducible rfl
  simp only [Act.put, List.setIfInBounds_toArray, List.set_cons_zero, List.set_cons_succ]
  refine chainL_take (v := ?_) (by simp only [List.getElem?_toArray, List.getElem?_cons_zero, List.getElem?_cons_succ]; rfl) (by rfl) (fun w hS => ?_) ?_
  rotate_left
  · obtain ⟨s0, s1⟩ := hS; go_simp <;> with_reducible rfl
  simp only [Act.put, List.setIfInBounds_toArray, List.set_cons_zero, List.set_cons_succ]
  refine chainL_alone (by simp only [List.getElem?_toArray, List.getElem?_cons_zero, List.getElem?_cons_succ]; rfl) ?_
  intro K hK
  go_wp2
  refine hK.out _ _ (⟨(HB0.out.alloc _).cell 0, (HL0.out.alloc _).cell 0⟩) ?_
  clear hK K
  refine chainL_alone (by simp only [List.getElem?_toArray, List.getElem?_cons_zero, List.getElem?_cons_succ]; rfl) ?_
  intro K hK
  refine wpList_pushE elemEv kd r N c ns n HN.out HI.out (by rfl) (.tmp 10) (.tmp 15) rfl rfl rfl HO.out (by omega) (by omega) (by decide) ?_
  intro v' w1 hown st hb
  obtain ⟨A9, n9, c9, rfl⟩ := hown.slice
  have HB1 := hide ((st 142 (by decide)).whole (HB0.out.alloc _))
  have HL1 := hide ((st 54 (by decide)).whole (HL0.out.alloc _))
  go_wp2
  refine hK.out _ _ (⟨HB1.out.cell 0, HL1.out.cell 0⟩) ?_
  clear hK K
  have e1 : w1.cell? ⟨gL, 0, none⟩ = some v := HL1.out.cell 0
  have z1 := HL1.out.frozen 0
  have l2 := HL1.out.lt
  have HFIN : Hid (Told B w gB gL (es ++ [⟨kd, r, ns⟩]) (w1.setCell ⟨gL, 0, none⟩ (.slice A9 n9 c9))) := by
    refine ⟨⟨(Stays.put HL1.out (by decide)).whole HB1.out, ⟨_, HL1.out.put 0 _, hown.now.keep (fun _ hb => absurd hb (by omega)) (Stays.put HL1.out (by decide)) (Stays.put HL1.out (by decide)) (by simp [World.setCell])⟩, geB, geL⟩, ?_, fun t h1 h2 => (((HST.out t).trans (.of_below ((Below.refl _ _).alloc (Nat.le_refl _) _))).trans (st t h1)).trans (Stays.put HL1.out h2)⟩
    exact (((HBw.out.alloc (Nat.le_trans HO.out.le (Nat.le_refl _)) _).trans hb).setCell (p := ⟨gL, 0, none⟩) geL _)
  clear hown st hb HO HI HB0 HL0 HBw HST d0 d1
  refine chainL_alone (by simp only [List.getElem?_toArray, List.getElem?_cons_zero, List.getElem?_cons_succ]; rfl) ?_
  intro K hK
  go_wp2
  refine hK.out _ _ (⟨HB1.out.cell 0, HL1.out.cell 0⟩) ?_
  clear hK K
  refine chainL_late (by simp only [List.getElem?_toArray, List.getElem?_cons_zero, List.getElem?_cons_succ]; rfl) ?_
  intro K hK
  go_wp2
  refine hK.out _ _ ?_
  clear hK K
  refine chainL_nil ?_
  go_wp2
  exact bodyPost_end (v := .tuple #[]) (by simp [results, Tryz.results132]) rfl ⟨rfl, HFIN.out⟩

section
variable {B gB gL g : Nat} {w : World} {p : Ps} {es : List Ev}
set_option maxHeartbeats 2000000 in
theorem pend_any (h : Pr w g p) (ht : Tel B w gB gL es) (hg : g < B) (hl : es.length ≤ 10000) : Calls Tryz.prog 82 #[.pointer (some ⟨g, 0, none⟩), .func (.func 132) #[] #[.pointer (some ⟨gB, 0, none⟩)]] w fun e w' => e = .returned (.tuple #[]) ∧ Pr w' g ⟨p.st, p.n, []⟩ ∧ Tel B w' gB gL (es ++ brkE p.h) ∧ Fr B g w w' := by
  rw [brk_fl]
  obtain ⟨fl, hfl0⟩ : ∃ fl, flushed p.h = fl := ⟨_, rfl⟩
  have hfl : fl.length ≤ 1 := by rw [← hfl0]; unfold flushed; split <;> simp
  rw [hfl0]
  have HFL := hide hfl0
  have HT := hide ht
  have HP := hide h
  obtain ⟨l, ha, hs⟩ := h
  have HS := hide hs
  have HA := hide ha
  have lt := hs.lt
  clear ha hs ht hfl0
  go_enter Tryz.func82, Tryz.ntmps82
  go_wp2_with fail
  refine (flush_any g p.h w HS.out).mono ?_
  rintro e w1 ⟨v, rfl, hov, hs1, hf1⟩
  rw [HFL.out] at hov
  obtain ⟨A, c, rfl, hi1, -, -, -⟩ := hov.typed (C := 0)
  have HT1 := hide (HT.out.fr HP.out hf1)
  have HP1 : Hid (Pr w1 g ⟨p.st, p.n, []⟩) := ⟨l, HA.out, hs1⟩
  have HF1 : Hid (Fr B g w w1) := hf1.less HT.out.le
  have HI1 := hide hi1
  obtain ⟨m, hm⟩ : ∃ m, fl.length = m := ⟨_, rfl⟩
  rw [hm]
  rw [hm] at hfl
  have HM := hide hm
  clear hov hs1 hf1 hi1 hm
  go_wp2
  go_loopw [5, 11] (fun _ i wr => ∃ k : Nat, k ≤ m ∧ i = .int .i64 k ∧ Tel B wr gB gL (es ++ prE (fl.take k)) ∧ Pr wr g ⟨p.st, p.n, []⟩ ∧ Fr B g w wr ∧ IntsT 0 21 .i32 wr A fl) (fun _ i _ => m - (intOf i).toNat)
  case atStart => exact ⟨0, Nat.zero_le _, rfl, by rw [List.take_zero]; simpa [prE] using HT1.out, HP1.out, HF1.out, HI1.out⟩
  case round =>
    obtain ⟨k, hk, rfl, ht, hp, hf, hi⟩ := hrel
    by_cases hlt : k < m
    · obtain ⟨b, off, rfl, hc, hb0⟩ := hi.ints.at (i := k) (by rw [HM.out]; exact hlt)
      obtain ⟨r, hr⟩ : ∃ r, fl.getD k 0 = r := ⟨_, rfl⟩
      rw [hr] at hc
      have HTK := hide (take_snoc fl k r (by rw [HM.out]; exact hlt) hr)
      have hlk : (es ++ prE (fl.take k)).length ≤ 100000 := by
        rw [List.length_append, prE, List.length_map, List.length_take]; omega
      have HT := hide ht
      have HP := hide hp
      have HF := hide hf
      have HI := hide hi
      clear ht hp hf hi hr
      go_wp2_with fail
      refine (tell1_any B gB gL (es ++ prE (fl.take k)) wr HT.out 1 r none 0 0 [] rfl .nil hlk).mono ?_
      rintro e w2 ⟨rfl, hto⟩
      go_wp2
      go_roundw
      case rel =>
        refine ⟨k + 1, by omega, by go_num, ?_, hto.prs HP.out, HF.out.trans (Fr.of_below hto.bel), HI.out.keep (fun _ hb => absurd hb (by omega)) (hto.pr 21 (by decide) (by decide))⟩
        rw [HTK.out]
        have e : es ++ prE (fl.take k ++ [r]) = es ++ prE (fl.take k) ++ [⟨1, r, []⟩] := by simp [prE]
        rw [e]
        exact hto.tel
      case measure => simp [intOf]; omega
    · have HTK : Hid (fl.take k = fl) := by unfold Hid; exact List.take_of_length_le (by rw [HM.out]; omega)
      rw [HTK.out] at ht
      have HT := hide ht
      have HP := hide hp
      have HF := hide hf
      clear ht hp hf hi
      go_wp2
      exact bodyPost_end (v := .tuple #[]) (by simp [results, Tryz.results82]) rfl ⟨rfl, HP.out, HT.out, HF.out⟩
set_option maxHeartbeats 2000000 in
theorem ptake_any (h : Pr w g p) (hok : PsOk p) (ht : Tel B w gB gL es) (hg : g < B) (hl : es.length ≤ 10000) (b : Int) (b0 : 0 ≤ b) (b1 : b ≤ 255) : Calls Tryz.prog 84 #[.pointer (some ⟨g, 0, none⟩), .int .u8 b, .func (.func 132) #[] #[.pointer (some ⟨gB, 0, none⟩)]] w fun e w' => e = .returned (.tuple #[]) ∧ Pr w' g ⟨p.st, p.n, (cut (p.h ++ [b])).2⟩ ∧ Tel B w' gB gL (es ++ prE (cut (p.h ++ [b])).1) ∧ Fr B g w w' := by
  obtain ⟨w0, hw0⟩ : ∃ w0, w.alloc (.cells #[.int .u8 b] 5) = w0 := ⟨_, rfl⟩
  have hfl : (cut (p.h ++ [b])).1.length ≤ 4 := by have h1 := cut_len (p.h ++ [b]); have h2 := hok.len; rw [List.length_append] at h1; simp at h1; omega
  obtain ⟨fl, hh, hcut⟩ : ∃ fl hh, cut (p.h ++ [b]) = (fl, hh) := ⟨_, _, rfl⟩
  rw [hcut] at hfl
  rw [hcut]
  simp only at hfl ⊢
  have HCUT := hide hcut
  have hb0 : Below w.heap.size w w0 := by rw [← hw0]; exact (Below.refl _ _).alloc (Nat.le_refl _) _
  have HI0 : Hid (Ints .u8 w0 (some ⟨w.heap.size, 0, none⟩) [b]) := by unfold Hid; rw [← hw0]; exact (IntsT.new (C := 0) (k := .u8) w 5 [b]).ints
  have HB0 := hide hb0
  have HT := hide (ht.later hb0)
  have HP := hide (h.later hb0)
  have hle := ht.le
  obtain ⟨l, ha, hs⟩ := h.later hb0
  have HS := hide hs
  have HA := hide ha
  have HOK := hide hok
  have hby : Byte [b] := by intro x hx; simp at hx; omega
  have lt := h.lt
  have HW0 := hide hw0
  clear ha hs ht hb0 h hok hw0 hcut
  go_enter Tryz.func84, Tryz.ntmps84
  go_wp2_with fail
  rw [HW0.out]
  refine (feed_any g p.h [b] (some ⟨w.heap.size, 0, none⟩) 1 1 w0 HS.out HOK.out.held HOK.out.byte hby HI0.out rfl (by omega) (by intro ad e _; cases e; simp; omega)).mono ?_
  rintro e w1 ⟨v, rfl, hov, hs1, hf1⟩
  rw [HCUT.out] at hov hs1
  simp only at hov hs1
  obtain ⟨A, c, rfl, hi1, -, -, -⟩ := hov.typed (C := 0)
  have HT1 := hide (HT.out.fr HP.out hf1)
  have HP1 : Hid (Pr w1 g ⟨p.st, p.n, hh⟩) := ⟨l, HA.out, hs1⟩
  have HF1 : Hid (Fr B g w w1) := (Fr.of_below (HB0.out.mono hle)).trans (hf1.less (Nat.le_trans hle HB0.out.size))
  have HI1 := hide hi1
  obtain ⟨m, hm⟩ : ∃ m, fl.length = m := ⟨_, rfl⟩
  rw [hm]
  rw [hm] at hfl
  have HM := hide hm
  clear hov hs1 hf1 hi1 hm
  go_wp2
  go_loopw [7, 15] (fun _ i wr => ∃ k : Nat, k ≤ m ∧ i = .int .i64 k ∧ Tel B wr gB gL (es ++ prE (fl.take k)) ∧ Pr wr g ⟨p.st, p.n, hh⟩ ∧ Fr B g w wr ∧ IntsT 0 21 .i32 wr A fl) (fun _ i _ => m - (intOf i).toNat)
  case atStart => exact ⟨0, Nat.zero_le _, rfl, by rw [List.take_zero]; simpa [prE] using HT1.out, HP1.out, HF1.out, HI1.out⟩
  case round =>
    obtain ⟨k, hk, rfl, ht, hp, hf, hi⟩ := hrel
    by_cases hlt : k < m
    · obtain ⟨b, off, rfl, hc, hb0⟩ := hi.ints.at (i := k) (by rw [HM.out]; exact hlt)
      obtain ⟨r, hr⟩ : ∃ r, fl.getD k 0 = r := ⟨_, rfl⟩
      rw [hr] at hc
      have HTK := hide (take_snoc fl k r (by rw [HM.out]; exact hlt) hr)
      have hlk : (es ++ prE (fl.take k)).length ≤ 100000 := by
        rw [List.length_append, prE, List.length_map, List.length_take]; omega
      have HT := hide ht
      have HP := hide hp
      have HF := hide hf
      have HI := hide hi
      clear ht hp hf hi hr
      go_wp2_with fail
      refine (tell1_any B gB gL (es ++ prE (fl.take k)) wr HT.out 1 r none 0 0 [] rfl .nil hlk).mono ?_
      rintro e w2 ⟨rfl, hto⟩
      go_wp2
      go_roundw
      case rel =>
        refine ⟨k + 1, by omega, by go_num, ?_, hto.prs HP.out, HF.out.trans (Fr.of_below hto.bel), HI.out.keep (fun _ hb => absurd hb (by omega)) (hto.pr 21 (by decide) (by decide))⟩
        rw [HTK.out]
        have e : es ++ prE (fl.take k ++ [r]) = es ++ prE (fl.take k) ++ [⟨1, r, []⟩] := by simp [prE]
        rw [e]
        exact hto.tel
      case measure => simp [intOf]; omega
    · have HTK : Hid (fl.take k = fl) := by unfold Hid; exact List.take_of_length_le (by rw [HM.out]; omega)
      rw [HTK.out] at ht
      have HT := hide ht
      have HP := hide hp
      have HF := hide hf
      clear ht hp hf hi
      go_wp2
      exact bodyPost_end (v := .tuple #[]) (by simp [results, Tryz.results84]) rfl ⟨rfl, HP.out, HT.out, HF.out⟩
set_option maxHeartbeats 1000000 in
theorem pholds_any (h : Pr w g p) (bo : Bool) (hbo : decide (p.h ≠ []) = bo) : Calls Tryz.prog 115 #[.pointer (some ⟨g, 0, none⟩)] w (Said bo w) := by
  obtain ⟨l, ha, hs⟩ := h
  have HS := hide hs
  have lt := hs.lt
  have HD : Hid (decide ((0 : Int) < (p.h.length : Int)) = bo) := by
    unfold Hid; rw [← hbo, Bool.eq_iff_iff]; simp only [decide_eq_true_iff]; rw [ne_eq, ← List.length_eq_zero_iff]; omega
  clear hs ha hbo
  go_enter Tryz.func115, Tryz.ntmps115
  go_wp2_with fail
  refine (held_any g p.h w HS.out).mono ?_
  rintro e w1 ⟨v, rfl, hov⟩
  obtain ⟨A, c, rfl, -, -, -, -⟩ := hov.form2
  have HB := hide hov.bel
  clear hov HS
  generalize p.h.length = n at *
  go_wp2
  go_ret
  exact ⟨ret_bool (by have := HD.out; simpa using this), HB.out⟩
set_option maxHeartbeats 1000000 in
theorem prest_any (h : Pr w g p) (bo : Bool) (hbo : restP p = bo) : Calls Tryz.prog 62 #[.pointer (some ⟨g, 0, none⟩)] w (Said bo w) := by
  have c1 := h.st
  have lt := h.lt
  have HP := hide h
  clear h
  by_cases h0 : p.st = 0
  · rw [h0] at c1
    obtain ⟨b1, hb1⟩ : ∃ b1, decide (p.h ≠ []) = b1 := ⟨_, rfl⟩
    have HR : Hid (bo = !b1) := by unfold Hid; rw [← hbo, ← hb1]; unfold restP; rw [h0]; simp
    have HB1 := hide hb1
    clear hb1 hbo h0
    go_enter Tryz.func62, Tryz.ntmps62
    go_wp2_with fail
    refine (pholds_any HP.out b1 HB1.out).mono ?_
    rintro e w1 ⟨rfl, hb⟩
    have HB := hide hb
    clear hb
    go_wp2
    go_ret
    exact ⟨ret_bool (by rw [HR.out]), HB.out⟩
  · obtain rfl : bo = false := by rw [← hbo]; unfold restP; simp [h0]
    have hq : (p.st == 0) = false := by simp [h0]
    clear hbo h0
    generalize p.st = st at *
    go_enter Tryz.func62, Tryz.ntmps62
    go_wp2
    go_ret
    exact ⟨rfl, Below.refl _ _⟩
end
end Go.Proofs.YtkijclgbpbhglaaGreatDoor

namespace Go.Proofs.YtkijclgbpbhglaaGreatDoor
set_option maxRecDepth 100000
open Go.ChangeShapes Go.WideShapes Go.ChangeAt Go.RowKit
set_option linter.unusedVariables false

theorem onto_any (gL : Nat) (w : World) : Calls Tryz.prog 81 #[.pointer (some ⟨gL, 0, none⟩)] w fun e w' => e = .returned (.func (.func 132) #[] #[.pointer (some ⟨w.heap.size, 0, none⟩)]) ∧ w' = w.alloc (.cells #[.pointer (some ⟨gL, 0, none⟩)] 142) := by
  go_enter Tryz.func81, Tryz.ntmps81
  go_wp2
  go_ret
  exact ⟨rfl, rfl⟩
section
variable {B gB gL g : Nat} {w : World} {p : Ps} {es : List Ev}
set_option maxHeartbeats 2000000 in
theorem pnumber_any (h : Pr w g p) (h3 : p.st = 3) (ht : Tel B w gB gL es) (hg : g < B) (hl : es.length ≤ 10000) (b : Int) (b0 : 32 ≤ b) (b1 : b < 127) : Calls Tryz.prog 87 #[.pointer (some ⟨g, 0, none⟩), .int .u8 b, .func (.func 132) #[] #[.pointer (some ⟨gB, 0, none⟩)]] w fun e w' => e = .returned (.int .i64 (stepP p b).1.st) ∧ Pr w' g ⟨p.st, (stepP p b).1.n, (stepP p b).1.h⟩ ∧ Tel B w' gB gL (es ++ (stepP p b).2) ∧ Fr B g w w' := by
  have lt := h.lt
  have HP := hide h
  have HT := hide ht
  have hle := ht.le
  clear h ht
  rcases (by omega : (48 ≤ b ∧ b ≤ 57) ∨ b = 59 ∨ 64 ≤ b ∨ (b < 64 ∧ ¬ (48 ≤ b ∧ b ≤ 57) ∧ b ≠ 59)) with ⟨h1, h2⟩ | h1 | h1 | ⟨h1, h2, h4⟩
  · rw [step_dig h1 h2 h3]
    simp only [List.append_nil]
    clear h3
    go_enter Tryz.func87, Tryz.ntmps87
    go_wp2_with fail
    refine (adigit_any HP.out (b - 48) (by omega) (by omega)).mono ?_
    rintro e w1 ⟨rfl, hp, hf⟩
    have HP1 := hide hp
    have HF := hide hf
    clear hp hf
    go_wp2
    go_ret
    exact ⟨rfl, HP1.out, HT.out.fr HP.out HF.out, HF.out.less hle⟩
  · subst h1
    rw [step_semi rfl h3]
    simp only [List.append_nil]
    clear h3
    go_enter Tryz.func87, Tryz.ntmps87
    go_wp2_with fail
    refine (asplit_any HP.out).mono ?_
    rintro e w1 ⟨rfl, hp, hf⟩
    have HP1 := hide hp
    have HF := hide hf
    clear hp hf
    go_wp2
    go_ret
    exact ⟨rfl, HP1.out, HT.out.fr HP.out HF.out, HF.out.less hle⟩
  · rw [step_fin h1 b1 h3]
    simp only
    have h59 : (b == 59) = false := by simp; omega
    have h57 : 57 < b := by omega
    have h48 : 48 ≤ b := by omega
    have b2 : b ≤ 255 := by omega
    have HFI : Hid (finB b = true) := by unfold Hid finB; simp; omega
    have HTOLD := hide (atold_any HP.out)
    generalize p.n.take 8 = xs at *
    obtain ⟨m, hm⟩ : ∃ m, xs.length = m := ⟨_, rfl⟩
    have HM := hide hm
    clear h3 hm
    go_enter Tryz.func87, Tryz.ntmps87
    go_wp2_with fail
    refine (final_any b w (by omega) b2).mono ?_
    rintro e w1 ⟨rfl, rfl⟩
    rw [HFI.out]
    go_wp2_with fail
    refine (HTOLD.out).mono ?_
    rintro e w1 ⟨v, rfl, hov⟩
    obtain ⟨A, c, rfl, hi, -, -, -⟩ := hov.typed (C := 0)
    rw [HM.out]
    have HB := hide hov.bel
    have HI := hide hi
    clear hov hi HTOLD
    go_wp2_with fail
    refine (tell1_any B gB gL es w1 (HT.out.later HB.out) 3 b A m c xs HM.out HI.out (by omega)).mono ?_
    rintro e w2 ⟨rfl, hto⟩
    have HTO := hide hto
    clear hto
    go_wp2
    go_ret
    exact ⟨rfl, HTO.out.prs (HP.out.later HB.out), HTO.out.tel, (Fr.of_below (HB.out.mono hle)).trans (Fr.of_below HTO.out.bel)⟩
  · rw [step_idle b0 h1 (by omega) h4 h3]
    simp only [List.append_nil]
    have h59 : (b == 59) = false := by simp; omega
    have b2 : b ≤ 255 := by omega
    have HFI : Hid (finB b = false) := by unfold Hid finB; simp; omega
    clear h3
    rcases (by omega : b < 48 ∨ (48 ≤ b ∧ 57 < b)) with h5 | ⟨h5, h6⟩
    all_goals
      go_enter Tryz.func87, Tryz.ntmps87
      go_wp2_with fail
      refine (final_any b w (by omega) b2).mono ?_
      rintro e w1 ⟨rfl, rfl⟩
      rw [HFI.out]
      go_wp2
      go_ret
      exact ⟨rfl, HP.out, HT.out, Fr.refl⟩
end

set_option maxHeartbeats 4000000 in
theorem pfeed_any (g : Nat) (p : Ps) (bs : List Int) (A : Option Addr) (n c : Nat) (w : World) (h : Pr w g p) (hok : PsOk p) (hby : Byte bs) (hi : Ints .u8 w A bs) (hn : bs.length = n) (hl : n ≤ 1000) (hA : ∀ ad, A = some ad → 0 < n → ad.block ≠ g) :
    Calls Tryz.prog 45 #[.pointer (some ⟨g, 0, none⟩), .slice A n c] w fun e w' => ∃ v, e = .returned v ∧ OwnE 0 56 .i32 w.heap.size w' w' v (feedP p bs).2 ∧ Pr w' g (feedP p bs).1 ∧ Fr w.heap.size g w w' := by
  obtain ⟨w0, hw0⟩ : ∃ w0, w.alloc (.cells #[.slice none 0 0] 54) = w0 := ⟨_, rfl⟩
  obtain ⟨W, hW⟩ : ∃ W, w0.alloc (.cells #[.pointer (some ⟨w.heap.size, 0, none⟩)] 142) = W := ⟨_, rfl⟩
  have hb0 : Below w.heap.size w w0 := by rw [← hw0]; exact (Below.refl _ _).alloc (Nat.le_refl _) _
  have hb1 : Below w0.heap.size w0 W := by rw [← hW]; exact (Below.refl _ _).alloc (Nat.le_refl _) _
  have HB : Hid (Below w.heap.size w W) := hb0.trans (hb1.mono hb0.size)
  obtain ⟨gL, hgL⟩ : ∃ gL, w.heap.size = gL := ⟨_, rfl⟩
  obtain ⟨gB, hgB⟩ : ∃ gB, w0.heap.size = gB := ⟨_, rfl⟩
  have HTel : Hid (Tel w.heap.size W gB gL []) := by
    refine ⟨?_, ⟨.slice none 0 0, ?_, OwnE.start HB.out.size (Nat.zero_le _)⟩, ?_, by omega⟩
    · rw [← hgB, ← hgL, ← hW]; exact Whole.new w0 142 _
    · have : Whole w0 gL 54 [.slice none 0 0] := by rw [← hgL, ← hw0]; exact Whole.new w 54 _
      exact this.later hb1
    · rw [← hgB]; exact hb0.size
  have HP0 := hide (h.later HB.out)
  have HOK0 := hide hok
  have HN := hide hn
  have HA := hide hA
  have hgB' : g < w.heap.size := h.lt
  have HW0 := hide hw0
  have HW := hide hW
  have HGL := hide hgL
  have HGB := hide hgB
  clear hw0 hW hb0 hb1 hgL hgB h hok hn hA
  have hgB := hgB'
  clear hgB'
  go_enter Tryz.func45, Tryz.ntmps45
  go_wp2
  go_step3
  go_wp2_with fail
  rw [HW0.out]
  refine (onto_any w.heap.size w0).mono ?_
  rintro e w1 ⟨rfl, rfl⟩
  rw [HW.out, HGB.out]
  go_wp2
  go_step3
  go_wp2
  go_loopw [8, 9, 15] (fun _ _ i wr => ∃ k : Nat, k ≤ n ∧ i = .int .i64 k ∧ Pr wr g (feedP p (bs.take k)).1 ∧ Tel w.heap.size wr gB gL (feedP p (bs.take k)).2 ∧ Fr w.heap.size g w wr) (fun _ _ i _ => n - (intOf i).toNat)
  case atStart =>
    exact ⟨0, Nat.zero_le _, rfl, HP0.out, HTel.out, Fr.of_below HB.out⟩
  case round =>
    obtain ⟨k, hk, rfl, hp, ht, hfr⟩ := hrel
    by_cases hlt : k < n
    · obtain ⟨bb, off, rfl, hc, hb0⟩ := hi.at (i := k) (by rw [HN.out]; exact hlt)
      have hbg := HA.out _ rfl (by omega)
      have hbr := hby _ (getD_mem bs k (by rw [HN.out]; exact hlt))
      obtain ⟨b, hb⟩ : ∃ b, bs.getD k 0 = b := ⟨_, rfl⟩
      have hcw : wr.cell? ⟨bb, off + k, none⟩ = some (.int .u8 b) := by
        have e : wr.cell? ⟨bb, off + k, none⟩ = w.cell? ⟨bb, off + k, none⟩ := by simp only [World.cell?, hfr.block bb hb0 hbg]
        rw [e, hc, hb]
      rw [hb] at hbr
      obtain ⟨b0, b1⟩ := hbr
      have hff := feed_facts (bs.take k) p HOK0.out (hby.take k)
      have HNX : Hid (feedP p (bs.take (k + 1)) = ((stepP (feedP p (bs.take k)).1 b).1, (feedP p (bs.take k)).2 ++ (stepP (feedP p (bs.take k)).1 b).2)) := by
        unfold Hid
        rw [take_snoc bs k b (by rw [HN.out]; exact hlt) hb, feed_snoc]
      obtain ⟨q, es, hqe⟩ : ∃ q es, feedP p (bs.take k) = (q, es) := ⟨_, _, rfl⟩
      rw [hqe] at hp ht hff HNX
      simp only at hp ht hff HNX
      obtain ⟨hok, -, hle⟩ := hff
      have hle2 : es.length ≤ 4000 := by rw [List.length_take] at hle; omega
      have c15 := hp.st
      have z15 := hp.frozen 15
      have l15 := hp.lt
      have s0 := hok.st0
      have s4 := hok.st4
      have HP := hide hp
      have HT := hide ht
      have HF := hide hfr
      have HOK := hide hok
      clear hp ht hfr hok hc hb hqe hle
      rcases (by omega : (b = 24) ∨ (b = 26) ∨ (b = 27) ∨ (b = 127) ∨ (b < 32 ∧ b ≠ 24 ∧ b ≠ 26 ∧ b ≠ 27) ∨ (128 ≤ b) ∨ ((32 ≤ b ∧ b < 127) ∧ q.st = 0) ∨ ((32 ≤ b ∧ b < 127) ∧ q.st = 1) ∨ ((32 ≤ b ∧ b < 127) ∧ q.st = 2) ∨ ((32 ≤ b ∧ b < 127) ∧ q.st = 3) ∨ ((32 ≤ b ∧ b < 127) ∧ q.st = 4)) with hb | hb | hb | hb | hb | hb | hb | hb | hb | hb | hb
      · subst hb
        have HST := hide (step_cancel (p := q) (b := 24) (by omega))
        go_wp2_with fail
        refine (pend_any HP.out HT.out hgB (by omega)).mono ?_
        rintro e w1 ⟨rfl, hp, ht, hf⟩
        have HP1 := hide hp
        have HT1 := hide ht
        have HF1 := hide (HF.out.trans hf)
        clear hp ht hf c15 z15 l15 HP HT HF
        go_wp2_with fail
        refine (tell1_any _ gB gL _ w1 HT1.out 2 24 none 0 0 [] rfl .nil (by rw [List.length_append]; have := brk_len q.h; omega)).mono ?_
        rintro e w2 ⟨rfl, hto⟩
        have HP2 := hide (hto.prs HP1.out)
        have HT2 := hide hto.tel
        have HF2 := hide (HF1.out.trans (Fr.of_below hto.bel))
        clear hto HP1 HT1 HF1
        have c9 := HP2.out.st
        have z9 := HP2.out.frozen 15
        have l9 := HP2.out.lt
        try simp only at c9
        go_wp2
        go_roundw
        case rel =>
          have hf9 : Fr w2.heap.size g w2 (w2.setCell ⟨g, 15, none⟩ (.int .i64 (0))) := Fr.put 15 _
          refine ⟨k + 1, by omega, by go_num, ?_, ?_, HF2.out.trans (Fr.put 15 _)⟩
          · rw [HNX.out, HST.out]; exact HP2.out.setst (0)
          · rw [HNX.out, HST.out]; have := HT2.out.fr HP2.out hf9; simpa using this
        case measure => simp [intOf]; omega
      · subst hb
        have HST := hide (step_cancel (p := q) (b := 26) (by omega))
        go_wp2_with fail
        refine (pend_any HP.out HT.out hgB (by omega)).mono ?_
        rintro e w1 ⟨rfl, hp, ht, hf⟩
        have HP1 := hide hp
        have HT1 := hide ht
        have HF1 := hide (HF.out.trans hf)
        clear hp ht hf c15 z15 l15 HP HT HF
        go_wp2_with fail
        refine (tell1_any _ gB gL _ w1 HT1.out 2 26 none 0 0 [] rfl .nil (by rw [List.length_append]; have := brk_len q.h; omega)).mono ?_
        rintro e w2 ⟨rfl, hto⟩
        have HP2 := hide (hto.prs HP1.out)
        have HT2 := hide hto.tel
        have HF2 := hide (HF1.out.trans (Fr.of_below hto.bel))
        clear hto HP1 HT1 HF1
        have c9 := HP2.out.st
        have z9 := HP2.out.frozen 15
        have l9 := HP2.out.lt
        try simp only at c9
        go_wp2
        go_roundw
        case rel =>
          have hf9 : Fr w2.heap.size g w2 (w2.setCell ⟨g, 15, none⟩ (.int .i64 (0))) := Fr.put 15 _
          refine ⟨k + 1, by omega, by go_num, ?_, ?_, HF2.out.trans (Fr.put 15 _)⟩
          · rw [HNX.out, HST.out]; exact HP2.out.setst (0)
          · rw [HNX.out, HST.out]; have := HT2.out.fr HP2.out hf9; simpa using this
        case measure => simp [intOf]; omega
      · subst hb
        have HST := hide (step_esc (p := q) (b := 27) rfl)
        go_wp2_with fail
        refine (pend_any HP.out HT.out hgB (by omega)).mono ?_
        rintro e w1 ⟨rfl, hp, ht, hf⟩
        have HP1 := hide hp
        have HT1 := hide ht
        have HF1 := hide (HF.out.trans hf)
        clear hp ht hf c15 z15 l15 HP HT HF
        go_wp2_with fail
        refine (anone_any HP1.out).mono ?_
        rintro e w2 ⟨rfl, hp, hf⟩
        have HP2 := hide hp
        have HT2 := hide (HT1.out.fr HP1.out hf)
        have HF2 := hide (HF1.out.trans (hf.less HT1.out.le))
        clear hp hf HP1 HT1 HF1
        have c9 := HP2.out.st
        have z9 := HP2.out.frozen 15
        have l9 := HP2.out.lt
        try simp only at c9
        go_wp2
        go_roundw
        case rel =>
          have hf9 : Fr w2.heap.size g w2 (w2.setCell ⟨g, 15, none⟩ (.int .i64 (1))) := Fr.put 15 _
          refine ⟨k + 1, by omega, by go_num, ?_, ?_, HF2.out.trans (Fr.put 15 _)⟩
          · rw [HNX.out, HST.out]; exact HP2.out.setst (1)
          · rw [HNX.out, HST.out]; have := HT2.out.fr HP2.out hf9; simpa using this
        case measure => simp [intOf]; omega
      · subst hb
        have HST := hide (step_ctl (p := q) (b := 127) (by omega) (by omega) (by omega) (by omega))
        go_wp2_with fail
        refine (pend_any HP.out HT.out hgB (by omega)).mono ?_
        rintro e w1 ⟨rfl, hp, ht, hf⟩
        have HP1 := hide hp
        have HT1 := hide ht
        have HF1 := hide (HF.out.trans hf)
        clear hp ht hf c15 z15 l15 HP HT HF
        go_wp2_with fail
        refine (tell1_any _ gB gL _ w1 HT1.out 2 127 none 0 0 [] rfl .nil (by rw [List.length_append]; have := brk_len q.h; omega)).mono ?_
        rintro e w2 ⟨rfl, hto⟩
        have HP2 := hide (hto.prs HP1.out)
        have HT2 := hide hto.tel
        have HF2 := hide (HF1.out.trans (Fr.of_below hto.bel))
        clear hto HP1 HT1 HF1
        go_wp2
        go_roundw
        case rel =>
          refine ⟨k + 1, by omega, by go_num, ?_, ?_, HF2.out⟩
          · rw [HNX.out, HST.out]; exact HP2.out
          · rw [HNX.out, HST.out]; have := HT2.out; simpa using this
        case measure => simp [intOf]; omega
      · obtain ⟨h32, n24, n26, n27⟩ := hb
        have h24 : (b == 24) = false := by simp; omega
        have h26 : (b == 26) = false := by simp; omega
        have h27 : (b == 27) = false := by simp; omega
        have HST := hide (step_ctl (p := q) (b := b) n24 n26 n27 (by omega))
        go_wp2_with fail
        refine (pend_any HP.out HT.out hgB (by omega)).mono ?_
        rintro e w1 ⟨rfl, hp, ht, hf⟩
        have HP1 := hide hp
        have HT1 := hide ht
        have HF1 := hide (HF.out.trans hf)
        clear hp ht hf c15 z15 l15 HP HT HF
        go_wp2_with fail
        refine (tell1_any _ gB gL _ w1 HT1.out 2 b none 0 0 [] rfl .nil (by rw [List.length_append]; have := brk_len q.h; omega)).mono ?_
        rintro e w2 ⟨rfl, hto⟩
        have HP2 := hide (hto.prs HP1.out)
        have HT2 := hide hto.tel
        have HF2 := hide (HF1.out.trans (Fr.of_below hto.bel))
        clear hto HP1 HT1 HF1
        go_wp2
        go_roundw
        case rel =>
          refine ⟨k + 1, by omega, by go_num, ?_, ?_, HF2.out⟩
          · rw [HNX.out, HST.out]; exact HP2.out
          · rw [HNX.out, HST.out]; have := HT2.out; simpa using this
        case measure => simp [intOf]; omega
      · have h24 : (b == 24) = false := by simp; omega
        have h26 : (b == 26) = false := by simp; omega
        have h27 : (b == 27) = false := by simp; omega
        have h127 : (b == 127) = false := by simp; omega
        have HST := hide (step_take (p := q) (b := b) (by omega) (by omega) (by omega))
        go_wp2_with fail
        refine (ptake_any HP.out HOK.out HT.out hgB (by omega) b b0 b1).mono ?_
        rintro e w1 ⟨rfl, hp, ht, hf⟩
        have HP1 := hide hp
        have HT1 := hide ht
        have HF1 := hide (HF.out.trans hf)
        clear hp ht hf c15 z15 l15 HP HT HF
        have c9 := HP1.out.st
        have z9 := HP1.out.frozen 15
        have l9 := HP1.out.lt
        try simp only at c9
        go_wp2
        go_roundw
        case rel =>
          have hf9 : Fr w1.heap.size g w1 (w1.setCell ⟨g, 15, none⟩ (.int .i64 (0))) := Fr.put 15 _
          refine ⟨k + 1, by omega, by go_num, ?_, ?_, HF1.out.trans (Fr.put 15 _)⟩
          · rw [HNX.out, HST.out]; exact HP1.out.setst (0)
          · rw [HNX.out, HST.out]; have := HT1.out.fr HP1.out hf9; simpa using this
        case measure => simp [intOf]; omega
      · obtain ⟨⟨h32, h127l⟩, hs⟩ := hb
        have h128 : b < 128 := by omega
        have h24 : (b == 24) = false := by simp; omega
        have h26 : (b == 26) = false := by simp; omega
        have h27 : (b == 27) = false := by simp; omega
        have h127 : (b == 127) = false := by simp; omega
        have HST := hide (step_take (p := q) (b := b) (by omega) (by omega) (.inr hs))
        rw [hs] at c15
        go_wp2_with fail
        refine (ptake_any HP.out HOK.out HT.out hgB (by omega) b b0 b1).mono ?_
        rintro e w1 ⟨rfl, hp, ht, hf⟩
        have HP1 := hide hp
        have HT1 := hide ht
        have HF1 := hide (HF.out.trans hf)
        clear hp ht hf c15 z15 l15 HP HT HF
        have c9 := HP1.out.st
        have z9 := HP1.out.frozen 15
        have l9 := HP1.out.lt
        try simp only at c9
        go_wp2
        go_roundw
        case rel =>
          have hf9 : Fr w1.heap.size g w1 (w1.setCell ⟨g, 15, none⟩ (.int .i64 (0))) := Fr.put 15 _
          refine ⟨k + 1, by omega, by go_num, ?_, ?_, HF1.out.trans (Fr.put 15 _)⟩
          · rw [HNX.out, HST.out]; exact HP1.out.setst (0)
          · rw [HNX.out, HST.out]; have := HT1.out.fr HP1.out hf9; simpa using this
        case measure => simp [intOf]; omega
      · obtain ⟨⟨h32, h127l⟩, hs⟩ := hb
        have h128 : b < 128 := by omega
        have h24 : (b == 24) = false := by simp; omega
        have h26 : (b == 26) = false := by simp; omega
        have h27 : (b == 27) = false := by simp; omega
        have h127 : (b == 127) = false := by simp; omega
        have HST := hide (step_s1 (p := q) (b := b) (by omega) (by omega) hs)
        rw [hs] at c15
        go_wp2_with fail
        refine (besc_any b wr (by omega) (by omega)).mono ?_
        rintro e w1 ⟨rfl, rfl⟩
        generalize bescN b = x at *
        have c9 := HP.out.st
        have z9 := HP.out.frozen 15
        have l9 := HP.out.lt
        try simp only at c9
        go_wp2
        go_roundw
        case rel =>
          have hf9 : Fr wr.heap.size g wr (wr.setCell ⟨g, 15, none⟩ (.int .i64 (x))) := Fr.put 15 _
          refine ⟨k + 1, by omega, by go_num, ?_, ?_, HF.out.trans (Fr.put 15 _)⟩
          · rw [HNX.out, HST.out]; exact HP.out.setst (x)
          · rw [HNX.out, HST.out]; have := HT.out.fr HP.out hf9; simpa using this
        case measure => simp [intOf]; omega
      · obtain ⟨⟨h32, h127l⟩, hs⟩ := hb
        have h128 : b < 128 := by omega
        have h24 : (b == 24) = false := by simp; omega
        have h26 : (b == 26) = false := by simp; omega
        have h27 : (b == 27) = false := by simp; omega
        have h127 : (b == 127) = false := by simp; omega
        have HST := hide (step_s2 (p := q) (b := b) (by omega) (by omega) hs)
        rw [hs] at c15
        go_wp2_with fail
        refine (bbet_any b wr (by omega) (by omega)).mono ?_
        rintro e w1 ⟨rfl, rfl⟩
        generalize bbetN b = x at *
        have c9 := HP.out.st
        have z9 := HP.out.frozen 15
        have l9 := HP.out.lt
        try simp only at c9
        go_wp2
        go_roundw
        case rel =>
          have hf9 : Fr wr.heap.size g wr (wr.setCell ⟨g, 15, none⟩ (.int .i64 (x))) := Fr.put 15 _
          refine ⟨k + 1, by omega, by go_num, ?_, ?_, HF.out.trans (Fr.put 15 _)⟩
          · rw [HNX.out, HST.out]; exact HP.out.setst (x)
          · rw [HNX.out, HST.out]; have := HT.out.fr HP.out hf9; simpa using this
        case measure => simp [intOf]; omega
      · obtain ⟨⟨h32, h127l⟩, hs⟩ := hb
        have h128 : b < 128 := by omega
        have h24 : (b == 24) = false := by simp; omega
        have h26 : (b == 26) = false := by simp; omega
        have h27 : (b == 27) = false := by simp; omega
        have h127 : (b == 127) = false := by simp; omega
        have HS3 := hide hs
        rw [hs] at c15
        go_wp2_with fail
        refine (pnumber_any HP.out HS3.out HT.out hgB (by omega) b (by omega) (by omega)).mono ?_
        rintro e w1 ⟨rfl, hp, ht, hf⟩
        have HP1 := hide hp
        have HT1 := hide ht
        have HF1 := hide (HF.out.trans hf)
        clear hp ht hf c15 z15 l15 HP HT HF
        obtain ⟨x, hx⟩ : ∃ x, (stepP q b).1.st = x := ⟨_, rfl⟩
        rw [hx]
        have HX := hide hx
        clear hx
        have c9 := HP1.out.st
        have z9 := HP1.out.frozen 15
        have l9 := HP1.out.lt
        try simp only at c9
        go_wp2
        go_roundw
        case rel =>
          have hf9 : Fr w1.heap.size g w1 (w1.setCell ⟨g, 15, none⟩ (.int .i64 x)) := Fr.put 15 _
          refine ⟨k + 1, by omega, by go_num, ?_, ?_, HF1.out.trans (Fr.put 15 _)⟩
          · rw [HNX.out]; have := HP1.out.setst x; rw [← HX.out] at this ⊢; exact this
          · rw [HNX.out]; exact HT1.out.fr HP1.out hf9
        case measure => simp [intOf]; omega
      · obtain ⟨⟨h32, h127l⟩, hs⟩ := hb
        have h128 : b < 128 := by omega
        have h24 : (b == 24) = false := by simp; omega
        have h26 : (b == 26) = false := by simp; omega
        have h27 : (b == 27) = false := by simp; omega
        have h127 : (b == 127) = false := by simp; omega
        by_cases h64 : 64 ≤ b
        · have HST := hide (step_s4 (p := q) (b := b) (by omega) (by omega) hs)
          have HFI : Hid (finB b = true) := by unfold Hid finB; simp; omega
          rw [if_pos h64] at HST
          rw [hs] at c15
          go_wp2_with fail
          refine (final_any b wr b0 b1).mono ?_
          rintro e w1 ⟨rfl, rfl⟩
          rw [HFI.out]
          have c9 := HP.out.st
          have z9 := HP.out.frozen 15
          have l9 := HP.out.lt
          try simp only at c9
          go_wp2
          go_roundw
          case rel =>
            have hf9 : Fr wr.heap.size g wr (wr.setCell ⟨g, 15, none⟩ (.int .i64 (0))) := Fr.put 15 _
            refine ⟨k + 1, by omega, by go_num, ?_, ?_, HF.out.trans (Fr.put 15 _)⟩
            · rw [HNX.out, HST.out]; exact HP.out.setst (0)
            · rw [HNX.out, HST.out]; have := HT.out.fr HP.out hf9; simpa using this
          case measure => simp [intOf]; omega
        · have HST := hide (step_s4 (p := q) (b := b) (by omega) (by omega) hs)
          have HFI : Hid (finB b = false) := by unfold Hid finB; simp; omega
          rw [if_neg h64, ← hs] at HST
          rw [hs] at c15
          go_wp2_with fail
          refine (final_any b wr b0 b1).mono ?_
          rintro e w1 ⟨rfl, rfl⟩
          rw [HFI.out]
          go_wp2
          go_roundw
          case rel =>
            refine ⟨k + 1, by omega, by go_num, ?_, ?_, HF.out⟩
            · rw [HNX.out, HST.out]; exact HP.out
            · rw [HNX.out, HST.out]; have := HT.out; simpa using this
          case measure => simp [intOf]; omega
    · have HTK : Hid (bs.take k = bs) := by unfold Hid; exact List.take_of_length_le (by rw [HN.out]; omega)
      rw [HTK.out] at hp ht
      obtain ⟨v, hv, ho⟩ := ht.var
      have c1 : wr.cell? ⟨gL, 0, none⟩ = some v := hv.cell 0
      have l1 := hv.lt
      obtain ⟨A9, n9, c9, rfl⟩ := ho.slice
      have HP := hide hp
      have HO := hide ho
      have HF := hide hfr
      rw [HGL.out]
      clear hp ht hfr ho hv
      go_wp2
      rw [Exit.noGoto_ret]
      go_ret
      exact ⟨_, rfl, HO.out, HP.out, HF.out⟩
end Go.Proofs.YtkijclgbpbhglaaGreatDoor

namespace Go.Proofs.YtkijclgbpbhglaaGreatDoor
set_option maxRecDepth 100000
open Go.ChangeShapes Go.WideShapes Go.ChangeAt Go.RowKit
set_option linter.unusedVariables false

/-! ### the document's parser, and its events -/
structure Dp (w : World) (p : Ps) (A : Option Addr) (ln c : Nat) (A' : Option Addr) (lh c' : Nat) : Prop where
  n : IntsT 0 3 .i64 w A p.n
  h : IntsT 0 5 .u8 w A' p.h
  nl : p.n.length = ln
  hl : p.h.length = lh
  c0 : A = none → c = 0
  c1 : ln ≤ c
  c2 : c ≤ maxLen
  d0 : A' = none → c' = 0
structure Evo (w : World) (es : List Ev) (A : Option Addr) (n c : Nat) : Prop where
  e : Evs 0 60 .i64 w A es
  nl : es.length = n
  c0 : A = none → c = 0
section
variable {w w' : World} {p : Ps} {A A' : Option Addr} {ln c lh c' : Nat} {es : List Ev}
theorem Dp.keep (h : Dp w p A ln c A' lh c') (h1 : Stays 3 w w') (h2 : Stays 5 w w') : Dp w' p A ln c A' lh c' := ⟨h.n.keep (fun _ q => absurd q (by omega)) h1, h.h.keep (fun _ q => absurd q (by omega)) h2, h.nl, h.hl, h.c0, h.c1, h.c2, h.d0⟩
theorem Dp.below (h : Dp w p A ln c A' lh c') (hb : Below w.heap.size w w') : Dp w' p A ln c A' lh c' := h.keep (.of_below hb) (.of_below hb)
theorem Evo.keep (h : Evo w es A ln c) (h1 : Stays 3 w w') (h2 : Stays 60 w w') : Evo w' es A ln c := ⟨h.e.keep (fun _ q => absurd q (by omega)) h1 h2, h.nl, h.c0⟩
theorem Evo.below (h : Evo w es A ln c) (hb : Below w.heap.size w w') : Evo w' es A ln c := h.keep (.of_below hb) (.of_below hb)
theorem Evo.nil : Evo w [] none 0 0 := ⟨.nil, rfl, fun _ => rfl⟩
theorem Evs.one {C : Nat} {te : TypeId} {k : IntKind} {q : Nat} {kd r : Int} {N : Option Addr} {n : Nat} {ns : List Int} (h : Whole w q te [.int .i64 kd, .int k r, .slice N n c]) (hn : ns.length = n) (hi : IntsT C 3 .i64 w N ns) : Evs C te k w (some ⟨q, 0, none⟩) [⟨kd, r, ns⟩] := by
  subst hn
  refine ⟨[⟨⟨kd, r, ns⟩, N, c⟩], rfl, by intro x hx; simp at hx; subst hx; exact hi, .inr ⟨q, 0, rfl, .inr ⟨_, h⟩, fun j v hj => ?_⟩⟩
  rw [Nat.zero_add, h.cell]
  simpa [flatE, eaL] using hj
end
/-! ### numbers -/
end Go.Proofs.YtkijclgbpbhglaaGreatDoor
