/-
  Contracts: what fits: the document's; the program's closure, the library's search with it, and the program's.
-/
import Derived.Test.YtlbdfechhagimaaDoorTot
import Derived.Deep.RegionWith
namespace Go.Proofs.YtlbdfechhagimaaDoor
open Go.ChangeShapes Go.WideShapes Go.ChangeAt Go.RowKit
set_option linter.unusedVariables false

theorem fitF_stop (n : Int) (zs : List Int) (k : Nat) (hk : k ≤ fitF n zs) (h : k = zs.length ∨ (k < zs.length ∧ ¬ tot (zs.take (k + 1)) ≤ n)) : fitF n zs = k := by
  have hl := fitF_le zs n
  rcases h with h | ⟨h, h2⟩
  · omega
  · have := mt (fitF_iff zs n k h).1 h2
    omega

set_option maxHeartbeats 1000000 in
theorem rfit_any (n : Int) (A : Option Addr) (m c : Nat) (zs : List Int) (w : World) (h : Ints .i64 w A zs) (hl : zs.length = m) (hm : m ≤ 1000) (hc : m ≤ c) (hcm : c ≤ maxLen) (hA : A = none → c = 0) :
    Calls Tryd.prog 20 #[.int .i64 n, .slice A m c] w (Num .i64 (fitN n zs) w) := by
  unfold maxLen at hcm
  have HL := hide hl
  have HA := hide hA
  clear hl hA
  by_cases h0 : n < 0
  · have E : Hid (fitN n zs = 0) := by unfold Hid fitN; rw [if_pos h0]
    go_enter Tryd.func20, Tryd.ntmps20
    go_wp2
    go_ret
    exact ⟨ret_int (by rw [E.out]; rfl), Below.refl _ _⟩
  have E : Hid (fitN n zs = fitF n zs) := by unfold Hid fitN; rw [if_neg h0]
  go_enter Tryd.func20, Tryd.ntmps20
  go_wp2
  go_loopw [5] (fun i wr => ∃ k : Nat, k ≤ m ∧ i = .int .i64 k ∧ k ≤ fitF n zs ∧ Below w.heap.size w wr) (fun i _ => m - (intOf i).toNat)
  case atStart => exact ⟨0, Nat.zero_le _, rfl, Nat.zero_le _, Below.refl _ _⟩
  case round =>
    obtain ⟨k, hk, rfl, hf, hbel⟩ := hrel
    have HF := hide hf
    clear hf
    by_cases hlt : k < m
    · have q1 : (0 : Int) ≤ (k : Int) + 1 := by omega
      have q2 : (k : Int) + 1 ≤ (c : Int) := by omega
      obtain ⟨T, hT⟩ : ∃ T, tot (zs.take (k + 1)) = T := ⟨_, rfl⟩
      have HT := hide hT
      clear hT
      by_cases h1 : T ≤ n
      · have HN : Hid (k + 1 ≤ fitF n zs) := (fitF_iff zs n k (by rw [HL.out]; exact hlt)).2 (by rw [HT.out]; exact h1)
        go_wp2_with fail
        refine (rtotal_any A (k + 1) c (zs.take (k + 1)) wr ((h.take _).below hbel) (by rw [List.length_take, HL.out]; omega) (by omega)).mono ?_
        rintro e w1 ⟨rfl, hb1⟩
        rw [HT.out]
        go_wp2
        go_roundw
        case rel => exact ⟨k + 1, by omega, by go_num, HN.out, hbel.trans (hb1.mono hbel.size)⟩
        case measure => simp [intOf]; omega
      · have HN : Hid (fitF n zs = k) := fitF_stop n zs k HF.out (.inr ⟨by rw [HL.out]; exact hlt, by rw [HT.out]; exact h1⟩)
        go_wp2_with fail
        refine (rtotal_any A (k + 1) c (zs.take (k + 1)) wr ((h.take _).below hbel) (by rw [List.length_take, HL.out]; omega) (by omega)).mono ?_
        rintro e w1 ⟨rfl, hb1⟩
        rw [HT.out]
        go_wp2
        go_ret
        exact ⟨ret_int (by rw [E.out, HN.out]), hbel.trans (hb1.mono hbel.size)⟩
    · have HN : Hid (fitF n zs = k) := fitF_stop n zs k HF.out (.inl (by rw [HL.out]; omega))
      go_wp2
      go_ret
      exact ⟨ret_int (by rw [E.out, HN.out]), hbel⟩

/-- What the program's closure leaves. -/
def TooMuch (gT gN : Nat) (T n : Int) (r : Int) (w : World) (e : Ending) (w' : World) : Prop :=
  e = .returned (.bool (decide (n < T + pos r))) ∧ Whole w' gT 3 [.int .i64 (T + pos r)] ∧ Fr w.heap.size gT w w'

set_option maxHeartbeats 1000000 in
theorem too_any (gT gN : Nat) (T n r : Int) (w : World) (hT : Whole w gT 3 [.int .i64 T]) (hN : Whole w gN 3 [.int .i64 n]) (hne : gN ≠ gT) (hS : Spans w) (h0 : 0 ≤ T) (h1 : T ≤ 1000000) :
    Calls Tryd.prog 26 #[.int .i32 r, .pointer (some ⟨gT, 0, none⟩), .pointer (some ⟨gN, 0, none⟩)] w (TooMuch gT gN T n r w) := by
  obtain ⟨P1, hP⟩ : ∃ P1, pos r = P1 := ⟨_, rfl⟩
  have hP2 := pos_range r
  rw [hP] at hP2
  obtain ⟨hP3, hP4⟩ := hP2
  have HP := hide hP
  clear hP
  have hc : w.drew.cell? ⟨gT, 0, none⟩ = some (.int .i64 T) := hT.cell 0
  have hSd : Spans w.drew := hS
  have key : ∀ w1 : World, Below w.drew.heap.size w.drew w1 → w1.cell? ⟨gT, 0, none⟩ = some (.int .i64 T) ∧ w1.frozen? ⟨gT, 0, none⟩ = false ∧ (w1.setCell ⟨gT, 0, none⟩ (.int .i64 (T + P1))).cell? ⟨gT, 0, none⟩ = some (.int .i64 (T + P1)) ∧
      (w1.setCell ⟨gT, 0, none⟩ (.int .i64 (T + P1))).cell? ⟨gN, 0, none⟩ = some (.int .i64 n) ∧ Hid (Whole (w1.setCell ⟨gT, 0, none⟩ (.int .i64 (T + P1))) gT 3 [.int .i64 (T + P1)] ∧ Fr w.heap.size gT w (w1.setCell ⟨gT, 0, none⟩ (.int .i64 (T + P1)))) := by
    intro w1 hb
    have a1 : Whole w1 gT 3 [.int .i64 T] := hT.drew.later hb
    have a2 : Whole w1 gN 3 [.int .i64 n] := hN.drew.later hb
    have a3 := a1.put 0 (.int .i64 (T + P1))
    have a4 : Whole (w1.setCell ⟨gT, 0, none⟩ (.int .i64 (T + P1))) gN 3 [.int .i64 n] := by
      unfold Whole; rw [Below.heap_setCell _ _ _ _ (by exact hne)]; exact a2
    refine ⟨a1.cell 0, a1.frozen 0, a3.cell 0, a4.cell 0, a3, ?_⟩
    have hb' : Below w.heap.size w w1 := ⟨hb.os, hb.tape, hb.output, hb.size, hb.block⟩
    exact (Fr.of_below hb').trans (Fr.put 0 _)
  go_enter Tryd.func26, Tryd.ntmps26
  go_wp2
  go_region_with (go_at_call 24; refine (columns_any r _ hSd).mono ?_; rintro e w1 ⟨rfl, hb1⟩; rw [HP.out]; obtain ⟨k1, k2, k3, k4, k5⟩ := key w1 hb1)
  all_goals
    go_wp2
    go_ret
    exact ⟨ret_bool (by rw [HP.out]), by rw [HP.out]; exact k5.out.1, k5.out.2⟩

theorem fitN_step (n : Int) (zs : List Int) (k : Nat) (hk : k < zs.length) (h : tot (zs.take (k + 1)) ≤ n) : k + 1 ≤ fitN n zs := by
  have := (tot_range (zs.take (k + 1))).1
  unfold fitN
  rw [if_neg (by omega)]
  exact (fitF_iff zs n k hk).2 h
theorem fitN_stop (n : Int) (zs : List Int) (k : Nat) (hk : k ≤ fitN n zs) (h : k = zs.length ∨ (k < zs.length ∧ ¬ tot (zs.take (k + 1)) ≤ n)) : fitN n zs = k := by
  by_cases h0 : n < 0
  · have e : fitN n zs = 0 := by unfold fitN; rw [if_pos h0]
    omega
  · have e : fitN n zs = fitF n zs := by unfold fitN; rw [if_neg h0]
    rw [e] at hk ⊢
    exact fitF_stop n zs k hk h
theorem ne_of_spans {w : World} {g : Nat} {x : Value} (hS : Spans w) (h : Whole w g 3 [x]) : 0 ≠ g := by
  rintro rfl
  have h1 := hS 1 (.int .i32 31) rfl
  rw [Nat.zero_add, h.cell 1] at h1
  cases h1
theorem ne_of_ints {w : World} {g b off i : Nat} {x r : Int} (hc : w.cell? ⟨b, off + i, none⟩ = some (.int .i32 r)) (h : Whole w g 3 [.int .i64 x]) : b ≠ g := by
  rintro rfl
  rw [h.cell] at hc
  cases hq : off + i with
  | zero => rw [hq] at hc; cases hc
  | succ q => rw [hq] at hc; simp at hc
theorem Fr.spans {g : Nat} {w w' : World} (h : Fr w.heap.size g w w') (hS : Spans w) (hg : 0 ≠ g) : Spans w' := fun j v hv => by
  have := hS j v hv
  rw [← this]
  exact World.cell?_of_block (w := w) (h.block 0 hS.size hg)
theorem Fr.ints {g : Nat} {w w' : World} {A : Option Addr} {zs : List Int} {x : Int} (h : Fr w.heap.size g w w') (hi : Ints .i32 w A zs) (hw : Whole w g 3 [.int .i64 x]) : Ints .i32 w' A zs := by
  rcases hi with hi | ⟨b, off, ha, hc⟩
  · exact .inl hi
  · refine .inr ⟨b, off, ha, fun i hi => ?_⟩
    rw [← hc i hi]
    exact World.cell?_of_block (w := w) (h.block b (block_lt_of_cell (hc i hi)) (ne_of_ints (hc i hi) hw))
theorem Fr.whole {g g2 : Nat} {w w' : World} {t : TypeId} {l : List Value} (h : Fr w.heap.size g w w') (hw : Whole w g2 t l) (hne : g2 ≠ g) : Whole w' g2 t l := (h.block g2 hw.lt hne).trans hw

/-- What the library's search leaves. -/
def Found (gT : Nat) (n : Int) (zs : List Int) (w : World) (e : Ending) (w' : World) : Prop :=
  e = .returned (.int .i64 (if fitN n zs < zs.length then (fitN n zs : Int) else -1)) ∧ Fr w.heap.size gT w w'

set_option maxHeartbeats 1000000 in
theorem find_any (gT gN : Nat) (n : Int) (A : Option Addr) (m c : Nat) (zs : List Int) (w : World) (h : Ints .i32 w A zs) (hl : zs.length = m) (hm : m ≤ 1000) (hT : Whole w gT 3 [.int .i64 0]) (hN : Whole w gN 3 [.int .i64 n]) (hne : gN ≠ gT) (hS : Spans w) :
    Calls Tryd.prog 27 #[.slice A m c, .func (.func 26) #[] #[.pointer (some ⟨gT, 0, none⟩), .pointer (some ⟨gN, 0, none⟩)]] w (Found gT n zs w) := by
  have HL := hide hl
  clear hl
  have hg0 := ne_of_spans hS hT
  have HT0 := hide hT
  have HN0 := hide hN
  clear hT hN
  go_enter Tryd.func27, Tryd.ntmps27
  go_wp2
  go_loopw [5, 8] (fun _ i wr => ∃ k : Nat, k ≤ m ∧ i = .int .i64 k ∧ k ≤ fitN n zs ∧ Whole wr gT 3 [.int .i64 (tot (zs.take k))] ∧ Fr w.heap.size gT w wr) (fun _ i _ => m - (intOf i).toNat)
  case atStart => exact ⟨0, Nat.zero_le _, rfl, Nat.zero_le _, HT0.out, Fr.refl⟩
  case round =>
    obtain ⟨k, hk, rfl, hf, hwt, hfr⟩ := hrel
    have HF := hide hf
    have HWT := hide hwt
    have HFR := hide hfr
    clear hf hwt hfr
    by_cases hlt : k < m
    · obtain ⟨b, off, rfl, hc, hb⟩ := h.at (i := k) (by rw [HL.out]; exact hlt)
      obtain ⟨r, hr⟩ : ∃ r, zs.getD k 0 = r := ⟨_, rfl⟩
      rw [hr] at hc
      have hcx : wr.cell? ⟨b, off + k, none⟩ = some (.int .i32 r) := (World.cell?_of_block (w := w) (HFR.out.block b hb (ne_of_ints hc HT0.out))).trans hc
      have HT := hide (tot_snoc zs k r (by rw [HL.out]; exact hlt) hr)
      have hB := tot_take_le zs k
      have hcall : Calls Tryd.prog 26 #[.int .i32 r, .pointer (some ⟨gT, 0, none⟩), .pointer (some ⟨gN, 0, none⟩)] wr fun e w' => e = .returned (.bool (decide (n < tot (zs.take (k + 1))))) ∧ Whole w' gT 3 [.int .i64 (tot (zs.take (k + 1)))] ∧ Fr wr.heap.size gT wr w' := by
        rw [HT.out]
        exact too_any gT gN (tot (zs.take k)) n r wr HWT.out (HFR.out.whole HN0.out hne) hne (HFR.out.spans hS hg0) hB.1 (by omega)
      have HC := hide hcall
      clear hr hc hB hcall
      by_cases h1 : n < tot (zs.take (k + 1))
      · have E : Hid ((k : Int) = if fitN n zs < zs.length then (fitN n zs : Int) else -1) := by
          have := fitN_stop n zs k HF.out (.inr ⟨by rw [HL.out]; exact hlt, by omega⟩)
          unfold Hid; rw [this, if_pos (by rw [HL.out]; exact hlt)]
        have H1 : Hid (decide (n < tot (zs.take (k + 1))) = true) := by unfold Hid; simpa using h1
        clear h1
        go_wp2_with fail
        refine HC.out.mono ?_
        rintro e w1 ⟨rfl, h2, h3⟩
        rw [H1.out]
        go_wp2
        go_ret
        exact ⟨ret_int E.out, HFR.out.trans (h3.less HFR.out.size)⟩
      · have HK : Hid (k + 1 ≤ fitN n zs) := fitN_step n zs k (by rw [HL.out]; exact hlt) (by omega)
        have H1 : Hid (decide (n < tot (zs.take (k + 1))) = false) := by unfold Hid; simpa using h1
        clear h1
        go_wp2_with fail
        refine HC.out.mono ?_
        rintro e w1 ⟨rfl, h2, h3⟩
        rw [H1.out]
        have H2 := hide h2
        have H3 : Hid (Fr w.heap.size gT w w1) := HFR.out.trans (h3.less HFR.out.size)
        clear h2 h3
        go_wp2
        go_roundw
        case rel => exact ⟨k + 1, by omega, by go_num, HK.out, H2.out, H3.out⟩
        case measure => simp [intOf]; omega
    · have E : Hid ((-1 : Int) = if fitN n zs < zs.length then (fitN n zs : Int) else -1) := by
        have := fitN_stop n zs k HF.out (.inl (by rw [HL.out]; omega))
        unfold Hid; rw [this, if_neg (by rw [HL.out]; omega)]
      go_wp2
      go_ret
      exact ⟨ret_int E.out, HFR.out⟩

set_option maxHeartbeats 1000000 in
theorem fit_any (n : Int) (A : Option Addr) (m c : Nat) (zs : List Int) (w : World) (h : Ints .i32 w A zs) (hl : zs.length = m) (hm : m ≤ 1000) (hS : Spans w) :
    Calls Tryd.prog 19 #[.int .i64 n, .slice A m c] w (Num .i64 (fitN n zs) w) := by
  have HL := hide hl
  have hle := fitN_le n zs
  rw [hl] at hle
  clear hl
  have HI : Hid (Ints .i32 ((w.alloc (.cells #[.int .i64 n] 3)).alloc (.cells #[.int .i64 0] 3)) A zs) := (h.alloc _).alloc _
  have HS2 : Hid (Spans ((w.alloc (.cells #[.int .i64 n] 3)).alloc (.cells #[.int .i64 0] 3))) := (hS.alloc _).alloc _
  have HN : Hid (Whole ((w.alloc (.cells #[.int .i64 n] 3)).alloc (.cells #[.int .i64 0] 3)) w.heap.size 3 [.int .i64 n]) := (Whole.new w 3 [.int .i64 n]).alloc _
  have HT : Hid (Whole ((w.alloc (.cells #[.int .i64 n] 3)).alloc (.cells #[.int .i64 0] 3)) (w.heap.size + 1) 3 [.int .i64 0]) := by
    have := Whole.new (w.alloc (.cells #[.int .i64 n] 3)) 3 [.int .i64 0]
    have e : (w.alloc (.cells #[.int .i64 n] 3)).heap.size = w.heap.size + 1 := by simp
    rw [e] at this
    exact this
  by_cases h0 : fitN n zs < m
  · have E : Hid ((if fitN n zs < zs.length then (fitN n zs : Int) else -1) = (fitN n zs : Int)) := by unfold Hid; rw [HL.out, if_pos h0]
    obtain ⟨F, hF⟩ : ∃ F, fitN n zs = F := ⟨_, rfl⟩
    rw [hF] at E h0 hle ⊢
    have HF := hide hF
    clear hF
    go_enter Tryd.func19, Tryd.ntmps19
    go_wp2_with fail
    refine (find_any (w.heap.size + 1) w.heap.size n A m c zs _ HI.out HL.out hm HT.out HN.out (by omega) HS2.out).mono ?_
    rintro e w1 ⟨rfl, hf⟩
    rw [HF.out, E.out]
    have B1 : Hid (Below w.heap.size w w1) := (((Below.refl _ _).alloc (Nat.le_refl _) _).alloc (by simp) _).trans (hf.below (by simp; omega) (by omega))
    clear hf
    go_wp2
    go_ret
    exact ⟨rfl, B1.out⟩
  · have e1 : fitN n zs = m := by omega
    have E : Hid ((if fitN n zs < zs.length then (fitN n zs : Int) else -1) = -1) := by unfold Hid; rw [HL.out, if_neg h0]
    have E1 := hide e1
    clear e1 h0 hle
    go_enter Tryd.func19, Tryd.ntmps19
    go_wp2_with fail
    refine (find_any (w.heap.size + 1) w.heap.size n A m c zs _ HI.out HL.out hm HT.out HN.out (by omega) HS2.out).mono ?_
    rintro e w1 ⟨rfl, hf⟩
    rw [E.out]
    have B1 : Hid (Below w.heap.size w w1) := (((Below.refl _ _).alloc (Nat.le_refl _) _).alloc (by simp) _).trans (hf.below (by simp; omega) (by omega))
    clear hf
    go_wp2
    go_ret
    exact ⟨ret_int (by rw [E1.out]), B1.out⟩
end Go.Proofs.YtlbdfechhagimaaDoor
