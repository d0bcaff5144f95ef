/-
  Contracts: room for so many rows' values (slices.Grow of nil), two rows of them joined (slices.Concat of two).
-/
import Derived.Test.YtiifeniijcnahaaGreatDoorGMade
import Derived.Lib.AppendZeros
namespace Go.Proofs.YtiifeniijcnahaaGreatDoor
set_option maxRecDepth 100000
open Go.ChangeShapes Go.WideShapes Go.ChangeAt Go.RowKit
set_option linter.unusedVariables false

/-- A row of rows' values of the call's own. -/
structure OwnV (B : Nat) (w wr : World) (v : Value) (xs : List Value) : Prop where
  own : wr.ownsRow B 41 1 v xs.length xs
  bel : Below B w wr
  le : B ≤ wr.heap.size
/-- These values lie there. -/
def Vals (w : World) (ad : Addr) (xs : List Value) : Prop := (∀ j u, xs[j]? = some u → w.cell? (ad.add j) = some u) ∧ ∀ u ∈ xs, u.oneCell' = true
theorem Vals.below {w w' : World} {ad : Addr} {xs : List Value} (h : Vals w ad xs) (hb : Below w.heap.size w w') : Vals w' ad xs := by
  refine ⟨fun j u hu => ?_, h.2⟩
  have := h.1 j u hu
  rw [hb.cell (World.block_lt_of_cell? w _ this), this]
theorem OwnV.later {B : Nat} {w wr w1 : World} {v : Value} {xs : List Value} (h : OwnV B w wr v xs) (hb : Below wr.heap.size wr w1) : OwnV B w w1 v xs := by
  refine ⟨⟨h.own.1, ?_⟩, h.bel.trans (hb.mono h.le), Nat.le_trans h.le hb.size⟩
  rcases h.own.2 with h0 | ⟨g, cap, cur, hv, hB, hh, h1⟩
  · exact .inl h0
  · refine .inr ⟨g, cap, cur, hv, hB, ?_, h1⟩
    rw [hb.block g (Array.getElem?_eq_some_iff.1 hh).1, hh]
theorem wpList_catV {ops : Array Oper} {rest : List Oper} {o : Oper} {a : Act} {Q : Exit → Act → World → Prop} {B : Nat} {w wr : World} {v : Value} {xs ns : List Value} {ad : Addr} {m c : Nat}
    (hgd : Region.wanted o (yielded ops a.tmps) = true) (s y : Operand) (ho : o.op = .call { callee := .builtin .append, args := #[s, y], argTypes := #[89, 89] })
    (hs : a.eval s = v) (hy : a.eval y = .slice (some ad) m c) (hown : OwnV B w wr v xs) (hns : Vals wr ad ns) (hn : ns.length = m) (hlen : xs.length + m ≤ 1000000)
    (h : ∀ v' w1, OwnV B w w1 v' (xs ++ ns) → wpList Tryz.prog ops Q rest (a.put o.dst v') w1) : wpList Tryz.prog ops Q (o :: rest) a wr := by
  subst hn
  obtain ⟨i0, hi, hz0, hz1, hz2⟩ := info_parts elemRL.info
  refine wpList_want hgd fun K hK => ?_
  refine wp_append_own _ s y 89 ho B 41 i0 (.slice none 0 0) 1 24 elemRL.under hi hz0 hz1 hz2 rfl (by decide) v xs.length xs hs hown.own ad ns.length c ns hy (by omega) hns.1 hns.2
    (by unfold maxLen; omega) (by omega) hown.le ?_
  intro v' w1 h1 hg _
  exact hK _ _ (h v' w1 ⟨by rw [List.length_append]; exact h1, hown.bel.grown hg hown.le (own_ge hown.own), Nat.le_trans hown.le hg.size⟩)
set_option maxHeartbeats 1000000 in
theorem grow_room (n : Nat) (h1 : 1 ≤ n) (h2 : n ≤ 1000) (w : World) : Calls Tryz.prog 99 #[.slice none 0 0, .int .i64 (n : Int)] w fun e w' => ∃ v, e = .returned v ∧ OwnV w.heap.size w w' v [] := by
  obtain ⟨i0, hi, hz0, hz1, hz2⟩ := info_parts elemRL.info
  have hrun := fun (ty : TypeId) => Lib.run_append_nil_zeros (P := Tryz.prog) w 89 3 ty 41 i0 (.slice none 0 0) .i64 .i64 elemRL.under Tryz.underlying3 hi hz0 n (by omega) (by omega) (by omega) (by rw [hz2]; omega)
  obtain ⟨cap, hcap⟩ : ∃ cap, grownCap w n 0 41 = cap := ⟨_, rfl⟩
  have hc1 : n ≤ cap := by rw [← hcap]; exact grownCap_ge _ _ _ _
  have hc2 : cap ≤ maxLen := by rw [← hcap]; exact grownCap_le_maxLen _ _ _ _ (by unfold maxLen; omega)
  rw [hcap] at hrun
  obtain ⟨W1, hW1⟩ : ∃ W1, w.drew.alloc (.cells (Builtin.zeroCells (Value.slice none 0 0).cells n ++ Builtin.zeroCells (Value.slice none 0 0).cells (cap - n)) 41) = W1 := ⟨_, rfl⟩
  have HO : Hid (OwnV w.heap.size w W1 (.slice (some ⟨w.heap.size, 0, none⟩) 0 cap) []) := by
    unfold Hid
    rw [← hW1]
    refine ⟨⟨rfl, .inr ⟨w.heap.size, cap, _, rfl, Nat.le_refl _, heap_alloc_new _ _, Nat.zero_le _, hc2, ?_, rfl⟩⟩, ((Below.refl _ _).drewN 1).alloc (Nat.le_refl _) _, by simp⟩
    have hzc : ∀ m, (Builtin.zeroCells (Value.slice none 0 0).cells m).size = m := by
      intro m
      simp [Builtin.zeroCells, Value.cells]
    rw [Array.size_append, hzc, hzc]
    omega
  rw [hW1] at hrun
  have HR := hide hrun
  unfold maxLen at hc2
  clear hrun hW1 hcap hi hz0 hz1 hz2
  go_enter Tryz.func99, Tryz.ntmps99
  go_wp2_with (at_builtin; refine stopw ?_)
  unfold Hid
  refine Lib.wpList_append_run _ rfl _ _ _ _ rfl _ _ rfl rfl _ _ (HR.out _) ?_
  go_wp2
  go_ret
  exact ⟨_, rfl, HO.out⟩
theorem OwnV.form {B : Nat} {w wr : World} {v : Value} {xs : List Value} (h : OwnV B w wr v xs) (hx : xs ≠ []) : ∃ g cap more, v = .slice (some ⟨g, 0, none⟩) xs.length cap ∧ B ≤ g ∧ Whole wr g 41 (xs ++ more) ∧ xs.length ≤ cap ∧ cap ≤ maxLen := by
  rcases h.own.2 with ⟨rfl, h0⟩ | ⟨g, cap, cur, rfl, hB, hh, hc, hm, hs, ht⟩
  · exact absurd (List.eq_nil_of_length_eq_zero h0) hx
  · refine ⟨g, cap, cur.toList.drop xs.length, rfl, hB, ?_, hc, hm⟩
    rw [Nat.mul_one] at ht
    have e := List.take_append_drop xs.length cur.toList
    rw [ht] at e
    unfold Whole
    rw [e]
    simpa using hh
/-- How many there are behind so many rounds, and which. -/
def sumF (nn : Nat → Nat) : Nat → Nat
  | 0 => 0
  | k + 1 => sumF nn k + nn k
def joinF (vs : Nat → List Value) : Nat → List Value
  | 0 => []
  | k + 1 => joinF vs k ++ vs k
theorem joinF_len (vs : Nat → List Value) (nn : Nat → Nat) (h : ∀ k, (vs k).length = nn k) (k : Nat) : (joinF vs k).length = sumF nn k := by
  induction k with
  | zero => rfl
  | succ k ih => unfold joinF sumF; rw [List.length_append, ih, h]
theorem sumF_mono (nn : Nat → Nat) (k : Nat) (h : k ≤ 2) : sumF nn k ≤ sumF nn 2 := by
  have e2 : sumF nn 2 = 0 + nn 0 + nn 1 := rfl
  match k, h with
  | 0, _ => exact Nat.zero_le _
  | 1, _ => have e1 : sumF nn 1 = 0 + nn 0 := rfl; omega
  | 2, _ => exact Nat.le_refl _
set_option maxHeartbeats 2000000 in
theorem concat_fn (X : Nat) (ad : Nat → Addr) (nn cc : Nat → Nat) (vs : Nat → List Value) (w : World) (lX : X < w.heap.size) (hX : ∀ k, k < 2 → w.cell? ⟨X, k, none⟩ = some (.slice (some (ad k)) (nn k) (cc k))) (hx : ∀ k, Vals w (ad k) (vs k)) (hn : ∀ k, (vs k).length = nn k) (h1 : 1 ≤ sumF nn 2) (h2 : sumF nn 2 ≤ 1000) :
    Calls Tryz.prog 72 #[.slice (some ⟨X, 0, none⟩) 2 2] w fun e w' => ∃ v, e = .returned v ∧ OwnV w.heap.size w w' v (joinF vs 2) := by
  have HX := hide hX
  have Hx := hide hx
  have HN := hide hn
  clear hx hX hn
  go_enter Tryz.func72, Tryz.ntmps72
  go_wp2
  go_loopw [3, 5, 11] (fun s _ i wr => ∃ k : Nat, k ≤ 2 ∧ i = .int .i64 k ∧ s = .int .i64 (sumF nn k : Int) ∧ w = wr) (fun _ _ i _ => 2 - (intOf i).toNat)
  case atStart => exact ⟨0, by omega, rfl, rfl, rfl⟩
  case round =>
    obtain ⟨k, hk, rfl, rfl, rfl⟩ := hrel
    by_cases hlt : k < 2
    · have b0 := HX.out k hlt
      have HS : Hid (sumF nn (k + 1) = sumF nn k + nn k) := rfl
      have hs1 : sumF nn k + nn k ≤ 1000 := by have := sumF_mono nn (k + 1) hlt; rw [HS.out] at this; omega
      go_wp2
      go_roundw
      case rel => exact ⟨k + 1, by omega, by go_num, by rw [HS.out]; go_num, by trivial⟩
      case measure => simp [intOf]; omega
    · obtain rfl : k = 2 := by omega
      obtain ⟨N, hN⟩ : ∃ N, sumF nn 2 = N := ⟨_, rfl⟩
      rw [hN] at h1 h2 ⊢
      have HNN := hide hN
      clear hN
      go_wp2_with fail
      refine (grow_room N h1 h2 w).mono ?_
      rintro e w1 ⟨v, rfl, hown⟩
      have HV := hide hown
      clear hown
      go_wp2
      go_loopw [6, 8, 27] (fun s _ i wr => ∃ k : Nat, k ≤ 2 ∧ i = .int .i64 k ∧ OwnV w.heap.size w wr s (joinF vs k)) (fun _ _ i _ => 2 - (intOf i).toNat)
      case atStart => exact ⟨0, by omega, rfl, HV.out⟩
      case round =>
        obtain ⟨k, hk, rfl, hown⟩ := hrel
        have HO := hide hown
        clear hown
        by_cases hlt2 : k < 2
        · have b0 : wr.cell? ⟨X, k, none⟩ = some (.slice (some (ad k)) (nn k) (cc k)) := by
            have := HX.out k hlt2
            rw [HO.out.bel.cell lX, this]
          have lX2 : X < wr.heap.size := Nat.lt_of_lt_of_le lX HO.out.bel.size
          have HL : Hid ((joinF vs k).length + nn k ≤ 1000000) := by
            unfold Hid
            rw [joinF_len vs nn HN.out k]
            have e : sumF nn (k + 1) = sumF nn k + nn k := rfl
            have := sumF_mono nn (k + 1) hlt2
            have := HNN.out
            omega
          go_wp2_with (at_builtin; refine stopw ?_)
          unfold Hid
          refine wpList_catV rfl _ _ rfl rfl rfl HO.out ((Hx.out k).below HO.out.bel) (HN.out k) HL.out ?_
          intro v' w2 hown
          have HO2 : Hid (OwnV w.heap.size w w2 v' (joinF vs (k + 1))) := hown
          clear hown b0 lX2
          go_wp2
          go_roundw
          case rel => exact ⟨k + 1, by omega, by go_num, HO2.out⟩
          case measure => simp [intOf]; omega
        · obtain rfl : k = 2 := by omega
          go_wp2
          go_ret
          exact ⟨_, rfl, HO.out⟩
theorem concat_any (X : Nat) (a1 a2 : Addr) (n1 n2 c1 c2 : Nat) (xs ys : List Value) (w : World) (hX : Whole w X 89 [.slice (some a1) n1 c1, .slice (some a2) n2 c2]) (hx : Vals w a1 xs) (hy : Vals w a2 ys) (hn1 : xs.length = n1) (hn2 : ys.length = n2) (h1 : 1 ≤ n1 + n2) (h2 : n1 + n2 ≤ 1000) :
    Calls Tryz.prog 72 #[.slice (some ⟨X, 0, none⟩) 2 2] w fun e w' => ∃ v, e = .returned v ∧ OwnV w.heap.size w w' v (xs ++ ys) := by
  have := concat_fn X (fun k => if k = 0 then a1 else a2) (fun k => if k = 0 then n1 else n2) (fun k => if k = 0 then c1 else c2) (fun k => if k = 0 then xs else ys) w hX.lt
    (fun k hk => by
      match k, hk with
      | 0, _ => exact hX.cell 0
      | 1, _ => exact hX.cell 1)
    (fun k => by by_cases q : k = 0 <;> simp [q, hx, hy]) (fun k => by by_cases q : k = 0 <;> simp [q, hn1, hn2]) (by simpa [sumF] using h1) (by simpa [sumF] using h2)
  simpa [joinF] using this
end Go.Proofs.YtiifeniijcnahaaGreatDoor
