/-
  Contract: a pen, turned by parameters (the program's).
-/
import Derived.Test.YthedfbkkeolkmaaDoorOnce
namespace Go.Proofs.YthedfbkkeolkmaaDoor
open Go.ChangeShapes Go.WideShapes Go.ChangeAt Go.RowKit
set_option linter.unusedVariables false

theorem fold_snoc (p : Pn) (l : List Int) (k : Nat) (r : Int) (hk : k < l.length) (hr : l.getD k 0 = r) : (l.take (k + 1)).foldl onceN p = onceN ((l.take k).foldl onceN p) r := by
  rw [take_snoc l k r hk hr, List.foldl_append]; rfl
theorem turn_full (p : Pn) (l : List Int) (h : 0 < l.length) : turnN p l = l.foldl onceN p := by
  unfold turnN
  cases l with
  | nil => simp at h
  | cons => rfl
theorem below_put3 {B : Nat} {w w1 : World} {q : Nat} (h : Below B w w1) (hq : B ≤ q) (x y z : Value) : Below B w (((w1.setCell ⟨q, 0, none⟩ x).setCell ⟨q, 1, none⟩ y).setCell ⟨q, 2, none⟩ z) := ((h.setCell hq _).setCell hq _).setCell hq _
theorem whole_put3 {w1 : World} {q r : Nat} {t : TypeId} {l : List Value} (h : Whole w1 r t l) (hq : r ≠ q) (x y z : Value) : Whole (((w1.setCell ⟨q, 0, none⟩ x).setCell ⟨q, 1, none⟩ y).setCell ⟨q, 2, none⟩ z) r t l := by
  unfold Whole
  rw [Below.heap_setCell _ _ _ _ hq, Below.heap_setCell _ _ _ _ hq, Below.heap_setCell _ _ _ _ hq]
  exact h

set_option maxHeartbeats 1000000 in
theorem turn_any (f g b : Nat) (hp : Pn.ok ⟨f, g, b⟩) (A : Option Addr) (m c : Nat) (zs : List Int) (w : World) (h : Ints .i64 w A zs) (hl : zs.length = m) (hm : m ≤ 1000000) :
    Calls Tryd.prog 8 #[.agg #[.int .u8 (f : Int), .int .u8 (g : Int), .int .u8 (b : Int)], .slice A m c] w (Penned (turnN ⟨f, g, b⟩ zs) w) := by
  by_cases h0 : m = 0
  · subst h0
    have E : Hid (turnN ⟨f, g, b⟩ zs = ⟨0, 0, 0⟩) := by
      have : zs = [] := List.eq_nil_of_length_eq_zero hl
      subst this; rfl
    clear hl
    rw [E.out]
    go_enter Tryd.func8, Tryd.ntmps8
    go_wp2
    exact ret3 Tryd.results8 (.inl rfl) rfl rfl (whole_snd w _ _ _) ⟨rfl, ((Below.refl _ _).alloc (Nat.le_refl _) _).alloc (by simp) _⟩
  have h0p : 0 < m := by omega
  have h0' : ((m : Int) == 0) = false := by simp; omega
  clear h0
  have HL := hide hl
  have HP := hide hp
  have ET := hide (turn_full ⟨f, g, b⟩ zs (by omega))
  clear hl hp
  have HW0 := hide (two_whole w 23 [.int .u8 (f : Int), .int .u8 (g : Int), .int .u8 (b : Int)] (.cells #[.int .u8 0, .int .u8 0, .int .u8 0] 23))
  have HW1 := hide (whole_snd w (.cells #[.int .u8 (f : Int), .int .u8 (g : Int), .int .u8 (b : Int)] 23) 23 [.int .u8 0, .int .u8 0, .int .u8 0])
  go_enter Tryd.func8, Tryd.ntmps8
  go_wp2
  go_loopw [6, 13] (fun _ i wr => ∃ k : Nat, k ≤ m ∧ i = .int .i64 k ∧ Whole wr w.heap.size 23 (penL ((zs.take k).foldl onceN ⟨f, g, b⟩)) ∧ Whole wr (w.heap.size + 1) 23 [.int .u8 0, .int .u8 0, .int .u8 0] ∧ Below w.heap.size w wr)
    (fun _ i _ => m - (intOf i).toNat)
  case atStart => exact ⟨0, Nat.zero_le _, rfl, HW0.out, HW1.out, ((Below.refl _ _).alloc (Nat.le_refl _) _).alloc (by simp) _⟩
  case round =>
    obtain ⟨k, hk, rfl, hw0, hw1, hbel⟩ := hrel
    obtain ⟨⟨F, G, B⟩, hP⟩ : ∃ P, (zs.take k).foldl onceN ⟨f, g, b⟩ = P := ⟨_, rfl⟩
    have hok := foldN_ok (zs.take k) _ HP.out
    rw [hP] at hw0 hok
    have hF : F < 256 := hok.1
    have c0 : wr.cell? ⟨w.heap.size, 0, none⟩ = some (.int .u8 (F : Int)) := hw0.cell 0
    have c1 : wr.cell? ⟨w.heap.size, 1, none⟩ = some (.int .u8 (G : Int)) := hw0.cell 1
    have c2 : wr.cell? ⟨w.heap.size, 2, none⟩ = some (.int .u8 (B : Int)) := hw0.cell 2
    have s0 := hw0.lt
    have s1 := hw1.lt
    by_cases hlt : k < m
    · obtain ⟨bb, off, rfl, hc, hb⟩ := h.at (i := k) (by rw [HL.out]; exact hlt)
      obtain ⟨r, hr⟩ : ∃ r, zs.getD k 0 = r := ⟨_, rfl⟩
      have hcx : wr.cell? ⟨bb, off + k, none⟩ = some (.int .i64 r) := by rw [← hr]; exact (hbel.cell (by exact hb)).trans hc
      have HT := hide (fold_snoc ⟨f, g, b⟩ zs k r (by rw [HL.out]; exact hlt) hr)
      rw [hP] at HT
      obtain ⟨⟨F', G', B'⟩, hQ⟩ : ∃ P, onceN ⟨F, G, B⟩ r = P := ⟨_, rfl⟩
      rw [hQ] at HT
      have hcall : ∀ W, Calls Tryd.prog 15 #[.agg #[.int .u8 (F : Int), .int .u8 (G : Int), .int .u8 (B : Int)], .int .i64 r] W (Penned ⟨F', G', B'⟩ W) := fun W => by have := once_any F G B r hF W; rw [hQ] at this; exact this
      have HC := hide hcall
      clear hr hc hP hQ hcall
      have HW0 := hide hw0
      have HW1 := hide hw1
      clear hw0 hw1
      go_wp2_with fail
      refine (HC.out _).mono ?_
      rintro e w1 ⟨rfl, hb1⟩
      have d0 := (HW0.out.later hb1).cell 0
      have d1 := (HW0.out.later hb1).cell 1
      have d2 := (HW0.out.later hb1).cell 2
      have z0 := (HW0.out.later hb1).frozen 0
      have z1 := (HW0.out.later hb1).frozen 1
      have z2 := (HW0.out.later hb1).frozen 2
      simp only [penL, List.getElem?_cons_zero, List.getElem?_cons_succ] at d0 d1 d2
      go_wp2
      go_roundw
      case rel => exact ⟨k + 1, by omega, by go_num, by rw [HT.out]; exact put3 (HW0.out.later hb1), whole_put3 (HW1.out.later hb1) (by omega) _ _ _, below_put3 (hbel.trans (hb1.mono hbel.size)) (Nat.le_refl _) _ _ _⟩
      case measure => simp [intOf]; omega
    · have E : Hid (turnN ⟨f, g, b⟩ zs = ⟨F, G, B⟩) := by
        unfold Hid; rw [ET.out, ← hP, List.take_of_length_le (by rw [HL.out]; omega)]
      rw [E.out]
      have d0 := hw1.cell 0
      have d1 := hw1.cell 1
      have d2 := hw1.cell 2
      have z0 := hw1.frozen 0
      have z1 := hw1.frozen 1
      have z2 := hw1.frozen 2
      simp only [List.getElem?_cons_zero, List.getElem?_cons_succ] at d0 d1 d2
      have HW1 := hide hw1
      clear hP hw0 hw1
      go_wp2
      exact ret3 Tryd.results8 (.inl rfl) rfl rfl (put3 HW1.out) ⟨by rw [E.out], below_put3 hbel (by omega) _ _ _⟩
end Go.Proofs.YthedfbkkeolkmaaDoor
