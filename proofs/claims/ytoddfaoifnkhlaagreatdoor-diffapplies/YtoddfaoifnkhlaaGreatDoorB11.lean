/-
  Contracts and plain mathematics of GCat, GScr, GNew.
-/
import Derived.Test.YtoddfaoifnkhlaaGreatDoorB10
import Derived.Lib.AppendZeros
namespace Go.Proofs.YtoddfaoifnkhlaaGreatDoor
set_option maxRecDepth 100000
set_option linter.unusedVariables false
set_option maxHeartbeats 8000000
section
open Go.ChangeShapes Go.WideShapes Go.ChangeAt Go.RowKit
structure OwnV (B : Nat) (w wr : World) (v : Value) (xs : List Value) : Prop where
 own : wr.ownsRow B 45 1 v xs.length xs
 bel : Below B w wr
 le : B ≤ wr.heap.size
def Vals (w : World) (ad : Addr) (xs : List Value) : Prop := (∀ j u, xs[j]? = some u → w.cell? (ad.add j) = some u) ∧ ∀ u ∈ xs, u.oneCell' = true
theorem Vals.below {w w' : World} {ad : Addr} {xs : List Value} (h : Vals w ad xs) (hb : Below w.heap.size w w') : Vals w' ad xs := by
 refine ⟨fun j u hu => ?_, h.2⟩
 have := h.1 j u hu
 rw [hb.cell (World.block_lt_of_cell? w _ this), this]
theorem OwnV.later {B : Nat} {w wr w1 : World} {v : Value} {xs : List Value} (h : OwnV B w wr v xs) (hb : Below wr.heap.size wr w1) : OwnV B w w1 v xs := by
 refine ⟨⟨h.own.1, ?_⟩, h.bel.trans (hb.mono h.le), Nat.le_trans h.le hb.size⟩
 rcases h.own.2 with h0 | ⟨g, cap, cur, hv, hB, hh, h1⟩
 ·exact .inl h0
 ·refine .inr ⟨g, cap, cur, hv, hB, ?_, h1⟩
  rw [hb.block g (Array.getElem?_eq_some_iff.1 hh).1, hh]
theorem wpList_catV {ops : Array Oper} {rest : List Oper} {o : Oper} {a : Act} {Q : Exit → Act → World → Prop} {B : Nat} {w wr : World} {v : Value} {xs ns : List Value} {ad : Addr} {m c : Nat}
  (hgd : Region.wanted o (yielded ops a.tmps) = true) (s y : Operand) (ho : o.op = .call { callee := .builtin .append, args := #[s, y], argTypes := #[100, 100] })
  (hs : a.eval s = v) (hy : a.eval y = .slice (some ad) m c) (hown : OwnV B w wr v xs) (hns : Vals wr ad ns) (hn : ns.length = m) (hlen : xs.length + m ≤ 1000000)
  (h : ∀ v' w1, OwnV B w w1 v' (xs ++ ns) → wpList Tryz.prog ops Q rest (a.put o.dst v') w1) : wpList Tryz.prog ops Q (o :: rest) a wr := by
 subst hn
 obtain ⟨i0, hi, hz0, hz1, hz2⟩ := info_parts elemRL.info
 refine wpList_want hgd fun K hK => ?_
 refine wp_append_own _ s y 100 ho B 45 i0 (.slice none 0 0) 1 24 elemRL.under hi hz0 hz1 hz2 rfl (by decide) v xs.length xs hs hown.own ad ns.length c ns hy (by omega) hns.1 hns.2
  (by unfold maxLen; omega) (by omega) hown.le ?_
 intro v' w1 h1 hg _
 exact hK _ _ (h v' w1 ⟨by rw [List.length_append]; exact h1, hown.bel.grown hg hown.le (own_ge hown.own), Nat.le_trans hown.le hg.size⟩)
theorem grow_room (n : Nat) (h1 : 1 ≤ n) (h2 : n ≤ 1000) (w : World) : Calls Tryz.prog 120 #[.slice none 0 0, .int .i64 n] w fun e w' => ∃ v, e = .returned v ∧ OwnV w.heap.size w w' v [] := by
 obtain ⟨i0, hi, hz0, hz1, hz2⟩ := info_parts elemRL.info
 have hrun := fun (ty : TypeId) => Lib.run_append_nil_zeros (P := Tryz.prog) w 100 3 ty 45 i0 (.slice none 0 0) .i64 .i64 elemRL.under Tryz.underlying3 hi hz0 n (by omega) (by omega) (by omega) (by rw [hz2]; omega)
 obtain ⟨cap, hcap⟩ := exq (grownCap w n 0 45)
 have hc1 : n ≤ cap := by rw [← hcap]; exact grownCap_ge _ _ _ _
 have hc2 : cap ≤ maxLen := by rw [← hcap]; exact grownCap_le_maxLen _ _ _ _ (by unfold maxLen; omega)
 rw [hcap] at hrun
 obtain ⟨W1, hW1⟩ := exq (w.drew.alloc (.cells (Builtin.zeroCells (Value.slice none 0 0).cells n ++ Builtin.zeroCells (Value.slice none 0 0).cells (cap - n)) 45))
 have HO : Hid (OwnV w.heap.size w W1 (.slice (some ⟨w.heap.size, 0, none⟩) 0 cap) []) := by
  unfold Hid
  rw [← hW1]
  refine ⟨⟨rfl, .inr ⟨w.heap.size, cap, _, rfl, Nat.le_refl _, heap_alloc_new _ _, Nat.zero_le _, hc2, ?_, rfl⟩⟩, bd1.alloc (Nat.le_refl _) _, by simp⟩
  have hzc : ∀ m, (Builtin.zeroCells (Value.slice none 0 0).cells m).size = m := by
   intro m
   simp [Builtin.zeroCells, Value.cells]
  rw [Array.size_append, hzc, hzc]
  omega
 rw [hW1] at hrun
 have HR := hide hrun
 unfold maxLen at hc2
 clear hrun hW1 hcap hi hz0 hz1 hz2
 go_enter Tryz.func120, Tryz.ntmps120
 go_wp2_with (at_builtin; refine stopw ?_)
 unfold Hid
 refine Lib.wpList_append_run _ rfl _ _ _ _ rfl _ _ rfl rfl _ _ (HR.out _) ?_
 go_wp2; go_ret
 exact ⟨_, rfl, HO.out⟩
theorem OwnV.form {B : Nat} {w wr : World} {v : Value} {xs : List Value} (h : OwnV B w wr v xs) (hx : xs ≠ []) : ∃ g cap more, v = .slice (some ⟨g, 0, none⟩) xs.length cap ∧ B ≤ g ∧ Whole wr g 45 (xs ++ more) ∧ xs.length ≤ cap ∧ cap ≤ maxLen := by
 rcases h.own.2 with ⟨rfl, h0⟩ | ⟨g, cap, cur, rfl, hB, hh, hc, hm, hs, ht⟩
 ·exact absurd (List.eq_nil_of_length_eq_zero h0) hx
 ·refine ⟨g, cap, cur.toList.drop xs.length, rfl, hB, ?_, hc, hm⟩
  rw [Nat.mul_one] at ht
  have e := List.take_append_drop xs.length cur.toList
  rw [ht] at e
  unfold Whole
  rw [e]
  simpa using hh
def sumF (nn : Nat → Nat) : Nat → Nat
 | 0 => 0
 | k + 1 => sumF nn k + nn k
def joinF (vs : Nat → List Value) : Nat → List Value
 | 0 => []
 | k + 1 => joinF vs k ++ vs k
theorem joinF_len (vs : Nat → List Value) (nn : Nat → Nat) (h : ∀ k, (vs k).length = nn k) (k : Nat) : (joinF vs k).length = sumF nn k := by
 induction k with
 | zero => rfl
 | succ k ih => unfold joinF sumF; rw [List.length_append, ih, h]
theorem sumF_mono (nn : Nat → Nat) (k : Nat) (h : k ≤ 2) : sumF nn k ≤ sumF nn 2 := by
 have e2 : sumF nn 2 = 0 + nn 0 + nn 1 := rfl
 match k, h with
 | 0, _ => exact Nat.zero_le _
 | 1, _ => have e1 : sumF nn 1 = 0 + nn 0 := rfl; omega
 | 2, _ => exact Nat.le_refl _
theorem concat_fn (X : Nat) (ad : Nat → Addr) (nn cc : Nat → Nat) (vs : Nat → List Value) (w : World) (lX : X < w.heap.size) (hX : ∀ k, k < 2 → w.cell? ⟨X, k, none⟩ = some (.slice (some (ad k)) (nn k) (cc k))) (hx : ∀ k, Vals w (ad k) (vs k)) (hn : ∀ k, (vs k).length = nn k) (h1 : 1 ≤ sumF nn 2) (h2 : sumF nn 2 ≤ 1000) :
  Calls Tryz.prog 103 #[.slice (some ⟨X, 0, none⟩) 2 2] w fun e w' => ∃ v, e = .returned v ∧ OwnV w.heap.size w w' v (joinF vs 2) := by
 have HX := hide hX; have Hx := hide hx; have HN := hide hn; clear hx hX hn
 go_enter Tryz.func103, Tryz.ntmps103
 go_wp2
 go_loopw [3, 5, 11] (fun s _ i wr => ∃ k : Nat, k ≤ 2 ∧ i = .int .i64 k ∧ s = .int .i64 (sumF nn k : Int) ∧ w = wr) (fun _ _ i _ => 2 - (intOf i).toNat)
 case atStart => exact ⟨0, by omega, rfl, rfl, rfl⟩
 case round =>
  obtain ⟨k, hk, rfl, rfl, rfl⟩ := hrel
  by_cases hlt : k < 2
  ·have b0 := HX.out k hlt
   have HS : Hid (sumF nn (k + 1) = sumF nn k + nn k) := rfl
   have hs1 : sumF nn k + nn k ≤ 1000 := by have := sumF_mono nn (k + 1) hlt; rw [HS.out] at this; omega
   go_wp2
   go_roundw
   case rel => exact ⟨k + 1, by omega, by go_num, by rw [HS.out]; go_num, by trivial⟩
   case measure => simp [intOf]; omega
  ·obtain rfl : k = 2 := by omega
   obtain ⟨N, hN⟩ := exq (sumF nn 2)
   rw [hN] at h1 h2 ⊢
   have HNN := hide hN; clear hN; go_wp2_with fail
   refine (grow_room N h1 h2 w).mono ?_
   rintro e w1 ⟨v, rfl, hown⟩
   have HV := hide hown; clear hown; go_wp2
   go_loopw [6, 8, 27] (fun s _ i wr => ∃ k : Nat, k ≤ 2 ∧ i = .int .i64 k ∧ OwnV w.heap.size w wr s (joinF vs k)) (fun _ _ i _ => 2 - (intOf i).toNat)
   case atStart => exact ⟨0, by omega, rfl, HV.out⟩
   case round =>
    obtain ⟨k, hk, rfl, hown⟩ := hrel
    have HO := hide hown; clear hown
    by_cases hlt2 : k < 2
    ·have b0 : wr.cell? ⟨X, k, none⟩ = some (.slice (some (ad k)) (nn k) (cc k)) := by
      have := HX.out k hlt2
      rw [HO.out.bel.cell lX, this]
     have lX2 : X < wr.heap.size := Nat.lt_of_lt_of_le lX HO.out.bel.size
     have HL : Hid ((joinF vs k).length + nn k ≤ 1000000) := by
      unfold Hid
      rw [joinF_len vs nn HN.out k]
      have e : sumF nn (k + 1) = sumF nn k + nn k := rfl
      have := sumF_mono nn (k + 1) hlt2
      have := HNN.out
      omega
     go_wp2_with (at_builtin; refine stopw ?_)
     unfold Hid
     refine wpList_catV rfl _ _ rfl rfl rfl HO.out ((Hx.out k).below HO.out.bel) (HN.out k) HL.out ?_
     intro v' w2 hown
     have HO2 : Hid (OwnV w.heap.size w w2 v' (joinF vs (k + 1))) := hown
     clear hown b0 lX2; go_wp2
     go_roundw
     case rel => exact ⟨k + 1, by omega, by go_num, HO2.out⟩
     case measure => simp [intOf]; omega
    ·obtain rfl : k = 2 := by omega
     go_wp2; go_ret
     exact ⟨_, rfl, HO.out⟩
theorem concat_any (X : Nat) (a1 a2 : Addr) (n1 n2 c1 c2 : Nat) (xs ys : List Value) (w : World) (hX : Whole w X 100 [.slice (some a1) n1 c1, .slice (some a2) n2 c2]) (hx : Vals w a1 xs) (hy : Vals w a2 ys) (hn1 : xs.length = n1) (hn2 : ys.length = n2) (h1 : 1 ≤ n1 + n2) (h2 : n1 + n2 ≤ 1000) :
  Calls Tryz.prog 103 #[.slice (some ⟨X, 0, none⟩) 2 2] w fun e w' => ∃ v, e = .returned v ∧ OwnV w.heap.size w w' v (xs ++ ys) := by
 have := concat_fn X (fun k => if k = 0 then a1 else a2) (fun k => if k = 0 then n1 else n2) (fun k => if k = 0 then c1 else c2) (fun k => if k = 0 then xs else ys) w hX.lt
  (fun k hk => by
   match k, hk with
   | 0, _ => exact hX.cell 0
   | 1, _ => exact hX.cell 1)
  (fun k => by by_cases q : k = 0 <;> simp [q, hx, hy]) (fun k => by by_cases q : k = 0 <;> simp [q, hn1, hn2]) (by simpa [sumF] using h1) (by simpa [sumF] using h2)
 simpa [joinF] using this
def rotI (R up i : Nat) : Nat := if i < R - up then i + up else i - (R - up)
theorem rotI_lt {R up i : Nat} (h : up ≤ R) (hi : i < R) : rotI R up i < R := by unfold rotI; split <;> omega
theorem rotI_inj {R up i j : Nat} (h : up ≤ R) (hi : i < R) (hj : j < R) (e : rotI R up i = rotI R up j) : i = j := by
 unfold rotI at e
 split at e <;> split at e <;> omega
theorem rows_rot (M C : Nat) (ps : Nat → Nat) (R up : Nat) (h : up ≤ R) : (rowsV M C ps R).drop up ++ (rowsV M C ps R).take up = rowsV M C (fun i => ps (rotI R up i)) R := by
 apply List.ext_getElem?
 intro i
 by_cases hi : i < R
 ·rw [rowsV_get _ _ _ _ _ hi]
  by_cases h1 : i < R - up
  ·rw [List.getElem?_append_left (by rw [List.length_drop, rowsV_len]; exact h1), List.getElem?_drop, rowsV_get _ _ _ _ _ (by omega)]
   unfold rowV rotI
   simp only [if_pos h1, Nat.add_comm up i]
  ·rw [List.getElem?_append_right (by rw [List.length_drop, rowsV_len]; omega), List.length_drop, rowsV_len, List.getElem?_take, if_pos (by omega), rowsV_get _ _ _ _ _ (by omega)]
   unfold rowV rotI
   simp only [if_neg h1]
 ·rw [List.getElem?_eq_none (by rw [List.length_append, List.length_drop, List.length_take, rowsV_len]; omega), List.getElem?_eq_none (by rw [rowsV_len]; omega)]
def rotG (g : Gd) (R C up come k : Nat) (p : Pn) : Gd := { g with ls := gtab R (fun i => if come ≤ i ∧ i < come + k then tab C (fun _ => blankC p) else lAt g.ls (rotI R up i)) }
section
variable {w w' : World} {G L M R C : Nat} {g : Gd} {cap : Nat} {ps : Nat → Nat} {room : List Cel} {more : List Value}
theorem GridAt.vals (h : GridAt w G L M R C g cap ps room more) {up : Nat} (hu : up ≤ R) {A1 : Addr} (hA : A1 = if cap = up then ⟨L, 0, none⟩ else ⟨L, up, none⟩) : Vals w A1 ((rowsV M C ps R).drop up) ∧ Vals w ⟨L, 0, none⟩ ((rowsV M C ps R).take up) := by
 have hadd : ∀ o j, (⟨L, o, none⟩ : Addr).add j = ⟨L, o + j, none⟩ := fun o j => by unfold Addr.add; split <;> simp_all
 have hone : ∀ u ∈ rowsV M C ps R, u.oneCell' = true := by
  intro u hu
  obtain ⟨i, _, rfl⟩ := List.mem_map.1 hu
  rfl
 refine ⟨⟨fun j u hj => ?_, fun u hu => hone u (List.mem_of_mem_drop hu)⟩, ⟨fun j u hj => ?_, fun u hu => hone u (List.mem_of_mem_take hu)⟩⟩
 ·rw [List.getElem?_drop] at hj
  have hl := (List.getElem?_eq_some_iff.1 hj).1
  rw [rowsV_len] at hl
  have hc := h.cap1
  subst hA
  rw [if_neg (by omega), hadd, h.lines.cell, List.getElem?_append_left (by rw [rowsV_len]; exact hl), hj]
 ·rw [List.getElem?_take] at hj
  split at hj
  ·have hl := (List.getElem?_eq_some_iff.1 hj).1
   rw [hadd, h.lines.cell, Nat.zero_add, List.getElem?_append_left hl, hj]
  ·cases hj
theorem GridAt.rot (h : GridAt w G L M R C g cap ps room more) {up come : Nat} (hu : up ≤ R) {p : Pn} {L2 cap2 : Nat} {more2 : List Value} (hw : Whole w L2 45 ((rowsV M C ps R).drop up ++ (rowsV M C ps R).take up ++ more2)) (h1 : R ≤ cap2) (h2 : cap2 ≤ maxLen) :
  GridAt (w.setCell ⟨G, 2, none⟩ (.slice (some ⟨L2, 0, none⟩) R cap2)) G L2 M R C (rotG g R C up come 0 p) cap2 (fun i => ps (rotI R up i)) room more2 := by
 refine ⟨h.top.put 2 _, ?_, h.piece.far (Only.put _ _) (Ne.symm h.neGM), h.len, h1, h2, fun i hi => h.perm _ (rotI_lt hu hi), fun i j hi hj e => rotI_inj hu hi hj (h.inj _ _ (rotI_lt hu hi) (rotI_lt hu hj) e), ?_⟩
 ·rw [← rows_rot _ _ _ _ _ hu]
  exact hw.far (Only.put _ _) (hw.ne h.top (by decide))
 ·refine gtab_eq fun i hi => ?_
  rw [if_neg (by omega), h.lAt (rotI_lt hu hi)]
theorem Spans.turn (hS : Spans w) (hg : Grd w G L M R C g) (hR : 1 ≤ R) (ht : Trn G L M w w') : Spans w' := by
 obtain ⟨cap, ps, room, more, h⟩ := hg
 have e0 : w.cell? ⟨0, 0, none⟩ = some (.int .i32 0) := hS 0 (.int .i32 0) rfl
 have e2 : ∃ x, w.cell? ⟨0, 2, none⟩ = some (.int .i64 x) := ⟨_, hS 2 _ rfl⟩
 have lt := hS.size
 have hG : 0 ≠ G := by
  rintro rfl
  rw [h.top.cell] at e0
  simp at e0
 have hL : 0 ≠ L := by
  rintro rfl
  rw [h.row (i := 0) (by omega)] at e0
  cases e0
 have hM : 0 ≠ M := by
  rintro rfl
  obtain ⟨x, e2⟩ := e2
  rw [h.piece.cell] at e2
  have hm := List.mem_of_getElem? e2
  unfold flatC at hm
  obtain ⟨c, _, hc⟩ := List.mem_flatMap.1 hm
  simp [cellL] at hc
 intro j v hv
 have := hS j v hv
 have hb := ht.block 0 lt hG hL hM
 unfold World.cell? at this ⊢
 simp only at this ⊢
 rw [hb]
 exact this
end
theorem rotG_next (g : Gd) (R C up come k j : Nat) (p : Pn) (hj : j = come + k) (hp : rightN p = true) (hk : j < R) (hl : ∀ i, i < R → (lAt g.ls i).length = C) (hu : up ≤ R) : eraseG (rotG g R C up come k p) (j : Int) 0 (C : Int) p = rotG g R C up come (k + 1) p := by
 subst hj; unfold eraseG
 have hlen : (rotG g R C up come k p).ls.length = R := gtab_len _ _
 rw [if_pos ⟨by unfold hasG; rw [hlen]; omega, hp⟩, Int.toNat_natCast]
 have e1 : ∀ i, i < R → lAt (rotG g R C up come k p).ls i = if come ≤ i ∧ i < come + k then tab C (fun _ => blankC p) else lAt g.ls (rotI R up i) := fun i hi => gtab_lAt _ _ _ hi
 have e2 : eraseC (lAt (rotG g R C up come k p).ls (come + k)) 0 (C : Int) p = tab C (fun _ => blankC p) := by
  refine erase_all _ C ?_ p
  rw [e1 _ hk, if_neg (by omega)]
  exact hl _ (rotI_lt hu hk)
 rw [e2, set_gtab, hlen]
 show ({ ls := _, row := g.row, col := g.col } : Gd) = { ls := _, row := g.row, col := g.col }
 congr 1
 refine gtab_eq fun i hi => ?_
 rw [e1 i hi]
 by_cases q : i = come + k
 ·rw [if_pos q, if_pos (by omega)]
 ·rw [if_neg q]
  by_cases q2 : come ≤ i ∧ i < come + k
  ·rw [if_pos q2, if_pos (by omega)]
  ·rw [if_neg q2, if_neg (by omega)]
theorem rotG_up (g : Gd) (R C m : Nat) (n : Int) (p : Pn) (hp : rightN p = true) (hR : g.ls.length = R) (hn : clampI n R = (m : Int)) (hm : m ≤ R) : rotG g R C m (R - m) m p = scrollG g C n p := by
 unfold rotG scrollG
 rw [if_pos hp, hR, hn]
 congr 1
 refine gtab_eq fun i hi => ?_
 unfold scrollAt rotI
 rw [hR]
 by_cases q : i < R - m
 ·rw [if_neg (by omega), if_pos q, if_pos (by omega)]
  congr 1
 ·rw [if_pos (by omega), if_neg (by omega)]
theorem rotG_down (g : Gd) (R C m : Nat) (n : Int) (p : Pn) (hp : rightN p = true) (hR : g.ls.length = R) (hn : clampI n R = -(m : Int)) (hm : m ≤ R) : rotG g R C (R - m) 0 m p = scrollG g C n p := by
 unfold rotG scrollG
 rw [if_pos hp, hR, hn]
 congr 1
 refine gtab_eq fun i hi => ?_
 unfold scrollAt rotI
 rw [hR]
 by_cases q : i < m
 ·rw [if_pos (by omega), if_neg (by omega)]
 ·rw [if_neg (by omega), if_neg (by omega), if_pos (by omega)]
  congr 1
  omega
section
variable {w : World} {G L M R C : Nat} {g : Gd}
def Scrolled (R C : Nat) (g' : Gd) (w : World) (G L M : Nat) (e : Ending) (w' : World) : Prop := e = .returned (.tuple #[]) ∧ ∃ L', Grd w' G L' M R C g' ∧ Trn G L M w w' ∧ (L' = L ∨ w.heap.size ≤ L')
theorem scroll_up (h : Grd w G L M R C g) (hR : 1 ≤ R) (hR2 : R ≤ 512) (hC : 1 ≤ C) (hC2 : C ≤ 512) (hS : Spans w) (n : Int) (f y b : Nat) (hp : rightN ⟨f, y, b⟩ = true) (m come : Nat) (hm : m ≤ R) (hcome : R - m = come) (hn : clampI n R = (m : Int)) :
  Calls Tryz.prog 67 #[.pointer (some ⟨G, 0, none⟩), .int .i64 n, .agg #[.int .u8 f, .int .u8 y, .int .u8 b]] w (Scrolled R C (scrollG g C n ⟨f, y, b⟩) w G L M) := by
 obtain ⟨W0, hW0⟩ := exq (w.alloc (.cells #[.int .u8 f, .int .u8 y, .int .u8 b] 63))
 have HB0 : Hid (Below w.heap.size w W0) := by unfold Hid; rw [← hW0]; exact (Below.refl _ _).alloc (Nat.le_refl _) _
 have HS0 : Hid (Spans W0) := by unfold Hid; rw [← hW0]; exact hS.alloc _
 have HP0 : Hid (Whole W0 w.heap.size 63 [.int .u8 f, .int .u8 y, .int .u8 b]) := by unfold Hid; rw [← hW0]; exact Whole.new _ _ _
 have HEnd : Hid (rotG g R C m come m ⟨f, y, b⟩ = scrollG g C n ⟨f, y, b⟩) := by unfold Hid; rw [← hcome]; exact rotG_up g R C m n ⟨f, y, b⟩ hp h.glen hn hm
 have HLs : Hid (∀ i, i < R → (lAt g.ls i).length = C) := by unfold Hid; obtain ⟨_, _, _, _, ha⟩ := h; exact fun i hi => ha.lenAt hi
 have HltG := hide h.ltG; have HltL := hide h.ltL; have HltM := hide h.ltM; have HPR := hide hp; have HW0 := hide hW0
 have HG0 := hide (h.later HB0.out)
 have hcl : min (max n (-(R : Int))) (R : Int) = (m : Int) := hn
 have hi1 : (R : Int) - (m : Int) = (come : Int) := by omega
 have hi2 : (come : Int) + (m : Int) = (R : Int) := by omega
 have hi3 : come ≤ R := by omega
 have hcome0 := hide hcome
 obtain ⟨a0, a1, a2, lP⟩ := cells3 HP0.out
 clear hW0 h hn hp hS hcome
 go_enter Tryz.func67, Tryz.ntmps67
 go_wp2_with fail
 rw [HW0.out]
 refine (right_any f y b W0).mono ?_
 rintro e W1 ⟨rfl, hb⟩
 rw [HPR.out]
 have HB := hide (HB0.out.trans (hb.mono HB0.out.size))
 have HS := hide (HS0.out.below hb)
 have HP := hide (HP0.out.later hb)
 have HG := hide (HG0.out.later hb)
 clear a0 a1 a2 lP hb HB0 HS0 HP0 HG0
 obtain ⟨cap, ps, room, more, ha⟩ := HG.out
 have HA := hide ha
 obtain ⟨c0, c1, c2, lG, lL, lM⟩ := ha.three
 have hcap := ha.cap1
 have hcap2 := ha.cap2
 unfold maxLen at hcap2
 obtain ⟨A1, hA1⟩ : ∃ A1 : Addr, (if cap = m then (⟨L, 0, none⟩ : Addr) else ⟨L, m, none⟩) = A1 := ⟨_, rfl⟩
 have HV1 := hide (ha.vals (up := m) (by omega) hA1.symm).1
 have HV2 := hide (ha.vals (up := m) (by omega) hA1.symm).2
 have HA1 := hide hA1; clear hA1 ha; go_wp2
 refine rgL (fun w' => Below W1.heap.size W1 w') 17 [(0, 0), (0, 1), (0, 5), (0, 7), (0, 11), (0, 2), (0, 3), (0, 8), (0, 9), (0, 4), (0, 6), (1, 10), (1, 12), (1, 13), (1, 14), (1, 15), (1, 16), (3, 17)] bd1 ?_
 iterate 9 refine stL (h := ?_)
 refine stL (hy := fun w hS => by obtain ⟨b0, b1, b2, -⟩ := cells3 (HA.out.top.later hS); go_simp <;> with_reducible rfl) (h := ?_)
 refine chainL_take (v := .slice (some A1) (R - m) (cap - m)) (by simp only [List.getElem?_toArray, List.getElem?_cons_zero, List.getElem?_cons_succ]; rfl) (by rfl) (fun w hS => ?_) ?_
 ·rw [← HA1.out]
  go_simp
  split <;> rfl
 simp only [Act.put, List.setIfInBounds_toArray, List.set_cons_zero, List.set_cons_succ]
 refine alL fun K hK => ?_
 go_wp2
 refine hK.out _ _ bd1 ?_
 clear hK K
 refine alL fun K hK => ?_
 go_wp2
 refine hK.out _ _ bd1 ?_
 clear hK K
 refine alL fun K hK => ?_
 go_wp2
 refine hK.out _ _ (((Below.refl _ _).alloc (Nat.le_refl _) _).drewN 1) ?_
 clear hK K
 refine alL fun K hK => ?_
 go_wp2_with fail
 refine (concat_any W1.heap.size A1 ⟨L, 0, none⟩ (R - m) m (cap - m) cap (((rowsV M C ps R).drop m)) ((rowsV M C ps R).take m) _ ?_ (HV1.out.below ?_) (HV2.out.below ?_) (by rw [List.length_drop, rowsV_len]) (by rw [List.length_take, rowsV_len]; omega) (by omega) (by omega)).mono ?_
 ·exact (Whole.new W1 100 [.slice (some A1) (R - m) (cap - m), .slice (some ⟨L, 0, none⟩) m cap]).drewN 1
 ·exact ((Below.refl _ _).alloc (Nat.le_refl _) _).drewN 1
 ·exact ((Below.refl _ _).alloc (Nat.le_refl _) _).drewN 1
 rintro e k1 ⟨v, rfl, hown⟩
 obtain ⟨L2, cap2, more2, rfl, hL2, hw2, hc2, hm2⟩ := hown.form (by intro q; have := congrArg List.length q; rw [List.length_append, List.length_drop, List.length_take, rowsV_len] at this; simp at this; omega)
 have Bk1 : Below W1.heap.size W1 k1 := (((Below.refl W1.heap.size W1).alloc (Nat.le_refl _) _).drewN 1).trans (hown.bel.mono (by simp))
 rw [show ((rowsV M C ps R).drop m ++ (rowsV M C ps R).take m).length = R by rw [List.length_append, List.length_drop, List.length_take, rowsV_len]; omega] at hc2 ⊢
 have HW2 := hide hw2
 have HL2 : Hid (W1.heap.size ≤ L2) := by unfold Hid; have : (W1.alloc (.cells #[.slice (some A1) (R - m) (cap - m), .slice (some ⟨L, 0, none⟩) m cap] 100)).heap.size ≤ L2 := hL2; simp at this; omega
 have HC2 := hide hc2; have HM2 := hide hm2; have HBk := hide Bk1
 have HAk := hide (HA.out.later Bk1)
 clear hw2 hL2 hc2 hm2 hown c0 c1 c2 lG lL lM
 obtain ⟨b0, b1, b2, lG⟩ := cells3 HAk.out.top
 have hz := HAk.out.top.frozen
 go_wp2
 refine hK.out _ _ (Bk1) ?_
 clear hK K
 refine alL fun K hK => ?_
 go_wp2
 refine hK.out _ _ (Bk1) ?_
 clear hK K
 refine alL fun K hK => ?_
 go_wp2
 refine hK.out _ _ (Bk1) ?_
 clear hK K
 refine laL fun K hK => ?_
 go_wp2
 refine hK.out _ _ ?_
 clear hK K
 refine chainL_nil ?_
 have HA2 := hide (HAk.out.rot (up := m) (come := come) (p := ⟨f, y, b⟩) (by omega) HW2.out HC2.out HM2.out)
 obtain ⟨W2, hW2⟩ := exq (k1.setCell ⟨G, 2, none⟩ (.slice (some ⟨L2, 0, none⟩) R cap2))
 rw [hW2] at HA2 ⊢
 have HT2 : Hid (Trn G L M w W2) := by unfold Hid; rw [← hW2]; exact Trn.ofB (HB.out.trans (HBk.out.mono HB.out.size)) (Trn.of_onlyG (Only.put _ _))
 have HP2 : Hid (Whole W2 w.heap.size 63 [.int .u8 f, .int .u8 y, .int .u8 b]) := by unfold Hid; rw [← hW2]; exact (HP.out.later HBk.out).far (Only.put _ _) ((HP.out.later HBk.out).ne HAk.out.top (by decide))
 have HS2 : Hid (Spans W2) := by unfold Hid; rw [← hW2]; exact (HS.out.below HBk.out).turn (.of HAk.out) hR (Trn.of_onlyG (Only.put _ _))
 have HL2n : Hid (w.heap.size ≤ L2) := by unfold Hid; exact Nat.le_trans HB.out.size HL2.out
 clear hW2 b0 b1 b2 lG hz Bk1; go_wp2
 go_loopw [9] (fun i wr => ∃ (j k : Nat), j = come + k ∧ k ≤ m ∧ i = .int .i64 j ∧ Grd wr G L2 M R C (rotG g R C m come k ⟨f, y, b⟩) ∧ Trn G L M w wr ∧ Whole wr w.heap.size 63 [.int .u8 f, .int .u8 y, .int .u8 b] ∧ Spans wr) (fun i _ => R - (intOf i).toNat)
 case atStart => exact ⟨come, 0, rfl, Nat.zero_le _, rfl, .of HA2.out, HT2.out, HP2.out, HS2.out⟩
 case round =>
  obtain ⟨j, k, hj, hk, rfl, hg, ht, hp, hs⟩ := hrel
  have HJ := hide hj; have HGk := hide hg; have HTk := hide ht; have HPk := hide hp; have HSk := hide hs; have HKm := hide hk; clear hg ht hp hs
  by_cases hlt : j < R
  ·have HJR : Hid (j < R) := by unfold Hid; omega
   have hjm : j ≤ 512 := by omega
   have HKlt : Hid (k < m) := by unfold Hid; omega
   clear hj hk; go_wp2
   refine rgL (fun w' => Below wr.heap.size wr w') 5 [(0, 0), (0, 1), (0, 2), (0, 4), (1, 3), (3, 5)] bd1 ?_
   iterate 3 refine stL (h := ?_)
   refine stL (hy := fun w hS => by obtain ⟨a0, a1, a2, -⟩ := cells3 (HPk.out.later hS); go_simp <;> with_reducible rfl) (h := ?_)
   refine alL fun K hK => ?_
   go_wp2_with fail
   refine (cols_any (HGk.out.later bd1) hR).mono ?_
   rintro e k1 ⟨rfl, rfl⟩
   go_wp2
   refine hK.out _ _ bd1 ?_
   clear hK K
   refine laL fun K hK => ?_
   go_wp2_with fail
   refine (gerase_any (HGk.out.later bd1) hC2 HSk.out.drew (j : Int) 0 C f y b).mono ?_
   rintro e k1 ⟨rfl, hg, ht⟩
   have HG1 := hide hg; have HT0 := hide ht; clear hg ht; go_wp2
   refine hK.out _ _ ?_
   clear hK K
   refine chainL_nil ?_
   have HGn : Hid (Grd k1 G L2 M R C (rotG g R C m come (k + 1) ⟨f, y, b⟩)) := by unfold Hid; rw [← rotG_next g R C m come k j ⟨f, y, b⟩ HJ.out HPR.out HJR.out HLs.out (by omega)]; exact HG1.out
   have HTn : Hid (Trn G L M w k1) := by unfold Hid; exact HTk.out.trans (Trn.ofB ((Below.refl wr.heap.size wr).drewN 1) HT0.out) (.inr HL2n.out)
   have HSn : Hid (Spans k1) := by unfold Hid; exact HSk.out.drew.turn (HGk.out.later bd1) hR HT0.out
   have HPn : Hid (Whole k1 w.heap.size 63 [.int .u8 f, .int .u8 y, .int .u8 b]) := by
    unfold Hid
    obtain ⟨_, _, _, _, hat⟩ := HGk.out
    exact HT0.out.whole HPk.out.drew (HPk.out.ne hat.top (by decide)) (HPk.out.ne hat.lines (by decide)) (HPk.out.ne hat.piece (by decide))
   go_wp2
   go_roundw
   case rel => exact ⟨j + 1, k + 1, by rw [HJ.out]; omega, HKlt.out, by go_num, HGn.out, HTn.out, HPn.out, HSn.out⟩
   case measure => simp [intOf]; omega
  ·obtain rfl : k = m := by omega
   clear hj hk; go_wp2
   exact bodyPost_end (v := .tuple #[]) (by simp [results, Tryz.results67]) rfl ⟨rfl, L2, by rw [← HEnd.out]; exact HGk.out, HTk.out, .inr HL2n.out⟩
theorem scroll_down (h : Grd w G L M R C g) (hR : 1 ≤ R) (hR2 : R ≤ 512) (hC : 1 ≤ C) (hC2 : C ≤ 512) (hS : Spans w) (n : Int) (f y b : Nat) (hp : rightN ⟨f, y, b⟩ = true) (m up : Nat) (hm : m ≤ R) (hup : R - m = up) (hm1 : 1 ≤ m) (hn : clampI n R = -(m : Int)) :
  Calls Tryz.prog 67 #[.pointer (some ⟨G, 0, none⟩), .int .i64 n, .agg #[.int .u8 f, .int .u8 y, .int .u8 b]] w (Scrolled R C (scrollG g C n ⟨f, y, b⟩) w G L M) := by
 obtain ⟨W0, hW0⟩ := exq (w.alloc (.cells #[.int .u8 f, .int .u8 y, .int .u8 b] 63))
 have HB0 : Hid (Below w.heap.size w W0) := by unfold Hid; rw [← hW0]; exact (Below.refl _ _).alloc (Nat.le_refl _) _
 have HS0 : Hid (Spans W0) := by unfold Hid; rw [← hW0]; exact hS.alloc _
 have HP0 : Hid (Whole W0 w.heap.size 63 [.int .u8 f, .int .u8 y, .int .u8 b]) := by unfold Hid; rw [← hW0]; exact Whole.new _ _ _
 have HEnd : Hid (rotG g R C up 0 m ⟨f, y, b⟩ = scrollG g C n ⟨f, y, b⟩) := by unfold Hid; rw [← hup]; exact rotG_down g R C m n ⟨f, y, b⟩ hp h.glen hn hm
 have HLs : Hid (∀ i, i < R → (lAt g.ls i).length = C) := by unfold Hid; obtain ⟨_, _, _, _, ha⟩ := h; exact fun i hi => ha.lenAt hi
 have HltG := hide h.ltG; have HltL := hide h.ltL; have HltM := hide h.ltM; have HPR := hide hp; have HW0 := hide hW0
 have HG0 := hide (h.later HB0.out)
 have hcl : min (max n (-(R : Int))) (R : Int) = -(m : Int) := hn
 have hi1 : (R : Int) + -(m : Int) = (up : Int) := by omega
 have hi2 : -(m : Int) < 0 := by omega
 have hi3 : up ≤ R := by omega
 have hup0 := hide hup
 obtain ⟨a0, a1, a2, lP⟩ := cells3 HP0.out
 clear hW0 h hn hp hS hup
 go_enter Tryz.func67, Tryz.ntmps67
 go_wp2_with fail
 rw [HW0.out]
 refine (right_any f y b W0).mono ?_
 rintro e W1 ⟨rfl, hb⟩
 rw [HPR.out]
 have HB := hide (HB0.out.trans (hb.mono HB0.out.size))
 have HS := hide (HS0.out.below hb)
 have HP := hide (HP0.out.later hb)
 have HG := hide (HG0.out.later hb)
 clear a0 a1 a2 lP hb HB0 HS0 HP0 HG0
 obtain ⟨cap, ps, room, more, ha⟩ := HG.out
 have HA := hide ha
 obtain ⟨c0, c1, c2, lG, lL, lM⟩ := ha.three
 have hcap := ha.cap1
 have hcap2 := ha.cap2
 unfold maxLen at hcap2
 obtain ⟨A1, hA1⟩ : ∃ A1 : Addr, (if cap = up then (⟨L, 0, none⟩ : Addr) else ⟨L, up, none⟩) = A1 := ⟨_, rfl⟩
 have HV1 := hide (ha.vals (up := up) (by omega) hA1.symm).1
 have HV2 := hide (ha.vals (up := up) (by omega) hA1.symm).2
 have HA1 := hide hA1; clear hA1 ha; go_wp2
 refine rgL (fun w' => Below W1.heap.size W1 w') 17 [(0, 0), (0, 1), (0, 5), (0, 7), (0, 11), (0, 2), (0, 3), (0, 8), (0, 9), (0, 4), (0, 6), (1, 10), (1, 12), (1, 13), (1, 14), (1, 15), (1, 16), (3, 17)] bd1 ?_
 iterate 9 refine stL (h := ?_)
 refine stL (hy := fun w hS => by obtain ⟨b0, b1, b2, -⟩ := cells3 (HA.out.top.later hS); go_simp <;> with_reducible rfl) (h := ?_)
 refine chainL_take (v := .slice (some A1) (R - up) (cap - up)) (by simp only [List.getElem?_toArray, List.getElem?_cons_zero, List.getElem?_cons_succ]; rfl) (by rfl) (fun w hS => ?_) ?_
 ·rw [← HA1.out]
  go_simp
  split <;> rfl
 simp only [Act.put, List.setIfInBounds_toArray, List.set_cons_zero, List.set_cons_succ]
 refine alL fun K hK => ?_
 go_wp2
 refine hK.out _ _ bd1 ?_
 clear hK K
 refine alL fun K hK => ?_
 go_wp2
 refine hK.out _ _ bd1 ?_
 clear hK K
 refine alL fun K hK => ?_
 go_wp2
 refine hK.out _ _ (((Below.refl _ _).alloc (Nat.le_refl _) _).drewN 1) ?_
 clear hK K
 refine alL fun K hK => ?_
 go_wp2_with fail
 refine (concat_any W1.heap.size A1 ⟨L, 0, none⟩ (R - up) up (cap - up) cap (((rowsV M C ps R).drop up)) ((rowsV M C ps R).take up) _ ?_ (HV1.out.below ?_) (HV2.out.below ?_) (by rw [List.length_drop, rowsV_len]) (by rw [List.length_take, rowsV_len]; omega) (by omega) (by omega)).mono ?_
 ·exact (Whole.new W1 100 [.slice (some A1) (R - up) (cap - up), .slice (some ⟨L, 0, none⟩) up cap]).drewN 1
 ·exact ((Below.refl _ _).alloc (Nat.le_refl _) _).drewN 1
 ·exact ((Below.refl _ _).alloc (Nat.le_refl _) _).drewN 1
 rintro e k1 ⟨v, rfl, hown⟩
 obtain ⟨L2, cap2, more2, rfl, hL2, hw2, hc2, hm2⟩ := hown.form (by intro q; have := congrArg List.length q; rw [List.length_append, List.length_drop, List.length_take, rowsV_len] at this; simp at this; omega)
 have Bk1 : Below W1.heap.size W1 k1 := (((Below.refl W1.heap.size W1).alloc (Nat.le_refl _) _).drewN 1).trans (hown.bel.mono (by simp))
 rw [show ((rowsV M C ps R).drop up ++ (rowsV M C ps R).take up).length = R by rw [List.length_append, List.length_drop, List.length_take, rowsV_len]; omega] at hc2 ⊢
 have HW2 := hide hw2
 have HL2 : Hid (W1.heap.size ≤ L2) := by unfold Hid; have : (W1.alloc (.cells #[.slice (some A1) (R - up) (cap - up), .slice (some ⟨L, 0, none⟩) up cap] 100)).heap.size ≤ L2 := hL2; simp at this; omega
 have HC2 := hide hc2; have HM2 := hide hm2; have HBk := hide Bk1
 have HAk := hide (HA.out.later Bk1)
 clear hw2 hL2 hc2 hm2 hown c0 c1 c2 lG lL lM
 obtain ⟨b0, b1, b2, lG⟩ := cells3 HAk.out.top
 have hz := HAk.out.top.frozen
 go_wp2
 refine hK.out _ _ (Bk1) ?_
 clear hK K
 refine alL fun K hK => ?_
 go_wp2
 refine hK.out _ _ (Bk1) ?_
 clear hK K
 refine alL fun K hK => ?_
 go_wp2
 refine hK.out _ _ (Bk1) ?_
 clear hK K
 refine laL fun K hK => ?_
 go_wp2
 refine hK.out _ _ ?_
 clear hK K
 refine chainL_nil ?_
 have HA2 := hide (HAk.out.rot (up := up) (come := 0) (p := ⟨f, y, b⟩) (by omega) HW2.out HC2.out HM2.out)
 obtain ⟨W2, hW2⟩ := exq (k1.setCell ⟨G, 2, none⟩ (.slice (some ⟨L2, 0, none⟩) R cap2))
 rw [hW2] at HA2 ⊢
 have HT2 : Hid (Trn G L M w W2) := by unfold Hid; rw [← hW2]; exact Trn.ofB (HB.out.trans (HBk.out.mono HB.out.size)) (Trn.of_onlyG (Only.put _ _))
 have HP2 : Hid (Whole W2 w.heap.size 63 [.int .u8 f, .int .u8 y, .int .u8 b]) := by unfold Hid; rw [← hW2]; exact (HP.out.later HBk.out).far (Only.put _ _) ((HP.out.later HBk.out).ne HAk.out.top (by decide))
 have HS2 : Hid (Spans W2) := by unfold Hid; rw [← hW2]; exact (HS.out.below HBk.out).turn (.of HAk.out) hR (Trn.of_onlyG (Only.put _ _))
 have HL2n : Hid (w.heap.size ≤ L2) := by unfold Hid; exact Nat.le_trans HB.out.size HL2.out
 clear hW2 b0 b1 b2 lG hz Bk1; go_wp2
 go_loopw [9] (fun i wr => ∃ (j k : Nat), j = 0 + k ∧ k ≤ m ∧ i = .int .i64 j ∧ Grd wr G L2 M R C (rotG g R C up 0 k ⟨f, y, b⟩) ∧ Trn G L M w wr ∧ Whole wr w.heap.size 63 [.int .u8 f, .int .u8 y, .int .u8 b] ∧ Spans wr) (fun i _ => m - (intOf i).toNat)
 case atStart => exact ⟨0, 0, rfl, Nat.zero_le _, rfl, .of HA2.out, HT2.out, HP2.out, HS2.out⟩
 case round =>
  obtain ⟨j, k, hj, hk, rfl, hg, ht, hp, hs⟩ := hrel
  have HJ := hide hj; have HGk := hide hg; have HTk := hide ht; have HPk := hide hp; have HSk := hide hs; have HKm := hide hk; clear hg ht hp hs
  by_cases hlt : j < m
  ·have HJR : Hid (j < R) := by unfold Hid; omega
   have hjm : j ≤ 512 := by omega
   have HKlt : Hid (k < m) := by unfold Hid; omega
   clear hj hk; go_wp2
   refine rgL (fun w' => Below wr.heap.size wr w') 5 [(0, 0), (0, 1), (0, 2), (0, 4), (1, 3), (3, 5)] bd1 ?_
   iterate 3 refine stL (h := ?_)
   refine stL (hy := fun w hS => by obtain ⟨a0, a1, a2, -⟩ := cells3 (HPk.out.later hS); go_simp <;> with_reducible rfl) (h := ?_)
   refine alL fun K hK => ?_
   go_wp2_with fail
   refine (cols_any (HGk.out.later bd1) hR).mono ?_
   rintro e k1 ⟨rfl, rfl⟩
   go_wp2
   refine hK.out _ _ bd1 ?_
   clear hK K
   refine laL fun K hK => ?_
   go_wp2_with fail
   refine (gerase_any (HGk.out.later bd1) hC2 HSk.out.drew (j : Int) 0 C f y b).mono ?_
   rintro e k1 ⟨rfl, hg, ht⟩
   have HG1 := hide hg; have HT0 := hide ht; clear hg ht; go_wp2
   refine hK.out _ _ ?_
   clear hK K
   refine chainL_nil ?_
   have HGn : Hid (Grd k1 G L2 M R C (rotG g R C up 0 (k + 1) ⟨f, y, b⟩)) := by unfold Hid; rw [← rotG_next g R C up 0 k j ⟨f, y, b⟩ HJ.out HPR.out HJR.out HLs.out (by omega)]; exact HG1.out
   have HTn : Hid (Trn G L M w k1) := by unfold Hid; exact HTk.out.trans (Trn.ofB ((Below.refl wr.heap.size wr).drewN 1) HT0.out) (.inr HL2n.out)
   have HSn : Hid (Spans k1) := by unfold Hid; exact HSk.out.drew.turn (HGk.out.later bd1) hR HT0.out
   have HPn : Hid (Whole k1 w.heap.size 63 [.int .u8 f, .int .u8 y, .int .u8 b]) := by
    unfold Hid
    obtain ⟨_, _, _, _, hat⟩ := HGk.out
    exact HT0.out.whole HPk.out.drew (HPk.out.ne hat.top (by decide)) (HPk.out.ne hat.lines (by decide)) (HPk.out.ne hat.piece (by decide))
   go_wp2
   go_roundw
   case rel => exact ⟨j + 1, k + 1, by rw [HJ.out]; omega, HKlt.out, by go_num, HGn.out, HTn.out, HPn.out, HSn.out⟩
   case measure => simp [intOf]; omega
  ·obtain rfl : k = m := by omega
   clear hj hk; go_wp2
   exact bodyPost_end (v := .tuple #[]) (by simp [results, Tryz.results67]) rfl ⟨rfl, L2, by rw [← HEnd.out]; exact HGk.out, HTk.out, .inr HL2n.out⟩
end
def GaveG (R C : Nat) (g : Gd) (w : World) (e : Ending) (w' : World) : Prop := ∃ G L M, e = .returned (.pointer (some ⟨G, 0, none⟩)) ∧ NewGrd R C g w G L M w'
def GaveG2 (R C : Nat) (g : Gd) (w : World) (e : Ending) (w' : World) : Prop := ∃ G L M, e = .returned (.tuple #[.pointer (some ⟨G, 0, none⟩), .int .i64 0]) ∧ NewGrd R C g w G L M w'
theorem new1_any (k q C : Nat) (A : Option Addr) (c : Nat) (z : List Cel) (w : World) (h1 : Whole w q 45 [.slice A C c]) (hc : Cels .i32 w A z) (hn : z.length = C) :
  Calls Tryz.prog 76 #[.int .i64 k, .pointer (some ⟨q, 0, none⟩)] w (Tells C z w) := by
 have c0 : w.cell? ⟨q, 0, none⟩ = some (.slice A C c) := h1.cell 0
 have lq := h1.lt
 have HC := hide hc; have HN := hide hn; clear h1 hc hn
 go_enter Tryz.func76, Tryz.ntmps76
 go_wp2; go_ret
 exact ⟨A, c, rfl, Below.refl _ _, HC.out, HN.out⟩
theorem sideB_yes {n : Nat} (h1 : 1 ≤ n) (h2 : n ≤ 512) : sideB (n : Int) = true := by unfold sideB; simp; omega
theorem NewGrd.from {R C : Nat} {g : Gd} {w w0 w' : World} {G L M : Nat} (h : NewGrd R C g w0 G L M w') (hb : Below w.heap.size w w0) : NewGrd R C g w G L M w' := by
 obtain ⟨h1, h2, h3, h4, h5⟩ := h
 exact ⟨h1, hb.trans (h2.mono hb.size), Nat.le_trans hb.size h3, Nat.le_trans hb.size h4, Nat.le_trans hb.size h5⟩
theorem gnew_yes (R C : Nat) (r1 : 1 ≤ R) (r2 : R ≤ 512) (c1 : 1 ≤ C) (c2 : C ≤ 512) (w : World) :
  Calls Tryz.prog 33 #[.int .i64 R, .int .i64 C] w (GaveG2 R C (newG R C) w) := by
 go_enter Tryz.func33, Tryz.ntmps33
 go_wp2_with fail
 refine (side_any R w).mono ?_
 rintro e w1 ⟨rfl, rfl⟩
 rw [sideB_yes r1 r2]
 go_wp2_with fail
 refine (side_any C w).mono ?_
 rintro e w1 ⟨rfl, rfl⟩
 rw [sideB_yes c1 c2]
 go_wp2_with fail
 refine (new_v (C : Int) rfl (lenN_nat C c2) w).mono ?_
 rintro e w1 ⟨A, c, rfl, hc, hb⟩
 obtain ⟨W0, hW0⟩ := exq (w1.alloc (.cells #[.slice A C c] 45))
 have HX : Hid (Whole W0 w1.heap.size 45 [.slice A C c]) := by unfold Hid; rw [← hW0]; exact Whole.new _ _ _
 have HC : Hid (Cels .i32 W0 A (newC (C : Int))) := by unfold Hid; rw [← hW0]; exact hc.alloc _
 have HB : Hid (Below w.heap.size w W0) := by unfold Hid; rw [← hW0]; exact hb.alloc hb.size _
 have HW0 := hide hW0; clear hW0 hc hb; go_wp2_with fail
 rw [HW0.out]
 refine (made_any R C r2 c1 c2 76 _ (fun _ => newC (C : Int)) W0 (enter_of Tryz.func76 (by kernel_rfl) (by kernel_rfl)) ?_).mono ?_
 ·intro k wr hk hb args hargs
  have ha2 : args = #[.int .i64 k, .pointer (some ⟨w1.heap.size, 0, none⟩)] := by simpa using hargs
  subst ha2
  exact new1_any k _ C A c _ wr (HX.out.later hb) (HC.out.below hb) (newC_len C c2)
 rintro e w2 ⟨G, L, M, rfl, hg⟩
 have HG := hide (hg.from HB.out)
 clear hg; go_wp2; go_ret2
 exact ⟨G, L, M, rfl, HG.out⟩
theorem gnew_no (r c : Int) (h : ¬ sizeN r c) (w : World) : Calls Tryz.prog 33 #[.int .i64 r, .int .i64 c] w fun e w' => e = .returned (.tuple #[.pointer none, .int .i64 11]) ∧ w = w' := by
 by_cases h1 : sideB r = true
 ·have h2 : sideB c = false := by
   unfold sideB at *
   simp only [decide_eq_true_eq] at h1
   simp only [decide_eq_false_iff_not]
   intro q
   exact h ⟨h1, q⟩
  have H1 := hide h1; have H2 := hide h2; clear h1 h2 h
  go_enter Tryz.func33, Tryz.ntmps33
  go_wp2_with fail
  refine (side_any r w).mono ?_
  rintro e w1 ⟨rfl, rfl⟩
  rw [H1.out]
  go_wp2_with fail
  refine (side_any c w).mono ?_
  rintro e w1 ⟨rfl, rfl⟩
  rw [H2.out]
  go_wp2; go_ret2
  exact ⟨rfl, rfl⟩
 ·have H1 : Hid (sideB r = false) := by unfold Hid; simpa using h1
  clear h1 h
  go_enter Tryz.func33, Tryz.ntmps33
  go_wp2_with fail
  refine (side_any r w).mono ?_
  rintro e w1 ⟨rfl, rfl⟩
  rw [H1.out]
  go_wp2; go_ret2
  exact ⟨rfl, rfl⟩
section
variable {w : World} {G L M R C : Nat} {g : Gd}
theorem copy1_any (h : Grd w G L M R C g) (k : Nat) (hk : k < R) {q : Nat} (hq : Whole w q 23 [.pointer (some ⟨G, 0, none⟩)]) :
  Calls Tryz.prog 60 #[.int .i64 k, .pointer (some ⟨q, 0, none⟩)] w (Tells C (lAt g.ls k) w) := by
 obtain ⟨cap, ps, room, more, h⟩ := h
 obtain ⟨c0, c1, c2, lG, lL, lM⟩ := h.three
 have c3 := h.row hk
 have c4 : w.cell? ⟨q, 0, none⟩ = some (.pointer (some ⟨G, 0, none⟩)) := hq.cell 0
 have lq := hq.lt
 have HC := hide (h.cels hk)
 have HN := hide (h.lenAt hk)
 clear h hq
 go_enter Tryz.func60, Tryz.ntmps60
 go_wp2; go_ret
 exact ⟨_, C, rfl, Below.refl _ _, HC.out, HN.out⟩
theorem copy_any (h : Grd w G L M R C g) (hR : 1 ≤ R) (hR2 : R ≤ 512) (hC : 1 ≤ C) (hC2 : C ≤ 512) :
  Calls Tryz.prog 23 #[.pointer (some ⟨G, 0, none⟩)] w (GaveG R C g w) := by
 obtain ⟨W0, hW0⟩ := exq (w.alloc (.cells #[.pointer (some ⟨G, 0, none⟩)] 23))
 have HX : Hid (Whole W0 w.heap.size 23 [.pointer (some ⟨G, 0, none⟩)]) := by unfold Hid; rw [← hW0]; exact Whole.new _ _ _
 have HB : Hid (Below w.heap.size w W0) := by unfold Hid; rw [← hW0]; exact (Below.refl _ _).alloc (Nat.le_refl _) _
 have HG := hide (h.later HB.out)
 have HLen := hide h.glen; have HW0 := hide hW0; clear hW0 h
 go_enter Tryz.func23, Tryz.ntmps23
 have f0 : W0.cell? ⟨w.heap.size, 0, none⟩ = some (.pointer (some ⟨G, 0, none⟩)) := HX.out.cell 0
 go_wp2; rw [HW0.out]; clear f0
 refine rgL (fun w' => Below W0.heap.size W0 w') 5 [(0, 0), (0, 2), (0, 4), (1, 1), (1, 3), (3, 5), (3, 6)] bd1 ?_
 refine stL (hy := fun w hS => by have f0 := (HX.out.later hS).cell 0; go_simp <;> with_reducible rfl) (h := ?_)
 refine stL (hy := fun w hS => by have f0 := (HX.out.later hS).cell 0; go_simp <;> with_reducible rfl) (h := ?_)
 refine stL (h := ?_)
 refine alL fun K hK => ?_
 go_wp2_with fail
 refine (rows_any (HG.out.later bd1)).mono ?_
 rintro e k1 ⟨rfl, rfl⟩
 go_wp2
 refine hK.out _ _ bd1 ?_
 clear hK K
 refine alL fun K hK => ?_
 go_wp2_with fail
 refine (cols_any (HG.out.later bd1) hR).mono ?_
 rintro e k1 ⟨rfl, rfl⟩
 go_wp2
 refine hK.out _ _ bd1 ?_
 clear hK K
 refine laL fun K hK => ?_
 go_wp2_with fail
 refine (made_any R C hR2 hC hC2 60 _ (lAt g.ls) W0.drew (enter_of Tryz.func60 (by kernel_rfl) (by kernel_rfl)) ?_).mono ?_
 ·intro k wr hk hb args hargs
  have ha2 : args = #[.int .i64 k, .pointer (some ⟨w.heap.size, 0, none⟩)] := by simpa using hargs
  subst ha2
  exact copy1_any (HG.out.later (bd1.trans hb)) k hk (HX.out.later (bd1.trans hb))
 rintro e k1 ⟨G1, L1, M1, rfl, hg, hb, n1, n2, n3⟩
 have HG1 := hide hg
 have HBk := hide (((Below.refl W0.heap.size W0).drewN 1).trans hb)
 have HN1 : Hid (W0.heap.size ≤ G1 ∧ W0.heap.size ≤ L1 ∧ W0.heap.size ≤ M1) := ⟨n1, n2, n3⟩
 clear hg hb n1 n2 n3; go_wp2
 refine hK.out _ _ ?_
 clear hK K
 refine laL fun K hK => ?_
 go_wp2
 refine hK.out _ _ ?_
 clear hK K
 refine chainL_nil ?_
 have f0 : k1.cell? ⟨w.heap.size, 0, none⟩ = some (.pointer (some ⟨G, 0, none⟩)) := (HX.out.later HBk.out).cell 0
 have l0 := (HX.out.later HBk.out).lt
 obtain ⟨c0, c1, lG⟩ := (HG.out.later HBk.out).cursor
 obtain ⟨cap, ps, room, more, ha⟩ := HG1.out
 obtain ⟨d0, d1, d2, lG1, -, -⟩ := ha.three
 have hz := ha.top.frozen
 have HA := hide ha; clear ha; go_wp2; go_ret
 have hcur := HA.out.cursor g.row g.col
 have e : ({ ls := gtab R (lAt g.ls), row := g.row, col := g.col } : Gd) = g := by
  have : gtab R (lAt g.ls) = g.ls := by rw [← HLen.out]; exact gtab_self _
  rw [this]
 refine ⟨G1, L1, M1, rfl, ?_, ?_, ?_, ?_, ?_⟩
 ·rw [← e]; exact .of hcur
 ·exact only2.below (HB.out.trans (HBk.out.mono HB.out.size)) (Nat.le_trans HB.out.size HBk.out.size) (Nat.le_trans HB.out.size HN1.out.1)
 ·exact Nat.le_trans HB.out.size HN1.out.1
 ·exact Nat.le_trans HB.out.size HN1.out.2.1
 ·exact Nat.le_trans HB.out.size HN1.out.2.2
theorem fit1_any (h : Grd w G L M R C g) (hC : C ≤ 512) (k C0 : Nat) (hC0 : C0 ≤ 512) {q q2 : Nat} (hq : Whole w q 23 [.pointer (some ⟨G, 0, none⟩)]) (hq2 : Whole w q2 3 [.int .i64 C0]) :
  Calls Tryz.prog 71 #[.int .i64 k, .pointer (some ⟨q, 0, none⟩), .pointer (some ⟨q2, 0, none⟩)] w (Tells C0 (fitC (lAt g.ls k) (C0 : Int)) w) := by
 have HG := hide h; have H1 := hide hq; have H2 := hide hq2
 have HN := hide (lenN_nat C0 hC0)
 have HLen := hide h.glen
 obtain ⟨X, hX⟩ := exq (fitC (lAt g.ls k) (C0 : Int))
 have HXL : Hid (X.length = C0) := by unfold Hid; rw [← hX, fit_len, lenN_nat C0 hC0]
 rw [hX]
 by_cases hk : k < R
 ·have HLn : Hid ((lAt g.ls k).length = C) := by unfold Hid; obtain ⟨_, _, _, _, ha⟩ := h; exact ha.lenAt hk
  have HF := hide hX; clear hX hq hq2 h
  go_enter Tryz.func71, Tryz.ntmps71
  go_wp2
  refine rgL (fun w' => Below w.heap.size w w') 4 [(0, 1), (0, 0), (0, 3), (1, 2), (3, 4), (3, 5)] bd1 ?_
  refine stL (h := ?_)
  refine stL (hy := fun w hS => by have f0 := (H1.out.later hS).cell 0; go_simp <;> with_reducible rfl) (h := ?_)
  refine stL (hy := fun w hS => by have f0 := (H2.out.later hS).cell 0; go_simp <;> with_reducible rfl) (h := ?_)
  refine alL fun K hK => ?_
  go_wp2_with fail
  refine (gline_any (HG.out.later bd1) k (by unfold hasG; omega) (by omega)).mono ?_
  rintro e k1 ⟨v, rfl, hown⟩
  rw [Int.toNat_natCast] at hown
  obtain ⟨A1, c1, rfl, hc1, -⟩ := hown.form
  have Bk1 : Below w.heap.size w k1 := bd1.trans hown.bel
  have HC1 := hide hc1; clear hc1 hown
  rw [HLn.out]
  go_wp2
  refine hK.out _ _ (Bk1) ?_
  clear hK K
  refine laL fun K hK => ?_
  go_wp2_with fail
  refine (fit_v C0 HF.out HN.out HC1.out HLn.out).mono ?_
  rintro e k2 ⟨A2, c2, rfl, hc2, hb2⟩
  have HB2 := hide (Bk1.trans (hb2.mono Bk1.size))
  have HC2 := hide hc2; clear hc2 hb2 Bk1; go_wp2
  refine hK.out _ _ ?_
  clear hK K
  refine laL fun K hK => ?_
  go_wp2
  refine hK.out _ _ ?_
  clear hK K
  refine chainL_nil ?_
  go_wp2; go_ret
  exact ⟨A2, c2, rfl, HB2.out, HC2.out, HXL.out⟩
 ·have HF : Hid (fitC [] (C0 : Int) = X) := by
   unfold Hid
   rw [← hX]
   congr 1
   unfold lAt
   rw [List.getD_eq_getElem?_getD, List.getElem?_eq_none (by rw [h.glen]; omega)]
   rfl
  clear hX hq hq2 h
  go_enter Tryz.func71, Tryz.ntmps71
  go_wp2
  refine rgL (fun w' => Below w.heap.size w w') 4 [(0, 1), (0, 0), (0, 3), (1, 2), (3, 4), (3, 5)] bd1 ?_
  refine stL (h := ?_)
  refine stL (hy := fun w hS => by have f0 := (H1.out.later hS).cell 0; go_simp <;> with_reducible rfl) (h := ?_)
  refine stL (hy := fun w hS => by have f0 := (H2.out.later hS).cell 0; go_simp <;> with_reducible rfl) (h := ?_)
  refine alL fun K hK => ?_
  go_wp2_with fail
  refine (gline_no (HG.out.later bd1) k (by unfold hasG; omega)).mono ?_
  rintro e k1 ⟨rfl, rfl⟩
  go_wp2
  refine hK.out _ _ bd1 ?_
  clear hK K
  refine laL fun K hK => ?_
  go_wp2_with fail
  refine (fit_v C0 HF.out HN.out (A := none) (c := 0) (n := 0) .nil rfl).mono ?_
  rintro e k2 ⟨A2, c2, rfl, hc2, hb2⟩
  have HB2 := hide (((Below.refl w.heap.size w).drewN 1).trans hb2)
  have HC2 := hide hc2; clear hc2 hb2; go_wp2
  refine hK.out _ _ ?_
  clear hK K
  refine laL fun K hK => ?_
  go_wp2
  refine hK.out _ _ ?_
  clear hK K
  refine chainL_nil ?_
  go_wp2; go_ret
  exact ⟨A2, c2, rfl, HB2.out, HC2.out, HXL.out⟩
theorem fit_yes (h : Grd w G L M R C g) (hC : C ≤ 512) (R0 C0 : Nat) (r1 : 1 ≤ R0) (r2 : R0 ≤ 512) (c1 : 1 ≤ C0) (c2 : C0 ≤ 512) :
  Calls Tryz.prog 25 #[.pointer (some ⟨G, 0, none⟩), .int .i64 R0, .int .i64 C0] w (GaveG2 R0 C0 (fitG g R0 C0) w) := by
 obtain ⟨W0, hW0⟩ := exq ((w.alloc (.cells #[.pointer (some ⟨G, 0, none⟩)] 23)).alloc (.cells #[.int .i64 C0] 3))
 have HX : Hid (Whole W0 w.heap.size 23 [.pointer (some ⟨G, 0, none⟩)]) := by unfold Hid; rw [← hW0]; exact (Whole.new _ _ _).alloc _
 have HY : Hid (Whole W0 (w.heap.size + 1) 3 [.int .i64 C0]) := by unfold Hid; rw [← hW0]; exact whole_snd _ _ _ _
 have HB : Hid (Below w.heap.size w W0) := by unfold Hid; rw [← hW0]; exact two_new _ _ _ _ _
 have HG := hide (h.later HB.out)
 have HW0 := hide hW0; clear hW0 h
 have f0 : W0.cell? ⟨w.heap.size, 0, none⟩ = some (.pointer (some ⟨G, 0, none⟩)) := HX.out.cell 0
 have f1 : W0.cell? ⟨w.heap.size + 1, 0, none⟩ = some (.int .i64 C0) := HY.out.cell 0
 go_enter Tryz.func25, Tryz.ntmps25
 go_wp2_with fail
 rw [HW0.out]
 refine (side_any R0 W0).mono ?_
 rintro e w1 ⟨rfl, rfl⟩
 rw [sideB_yes r1 r2]
 go_wp2_with fail
 refine (side_any C0 W0).mono ?_
 rintro e w1 ⟨rfl, rfl⟩
 rw [sideB_yes c1 c2]
 go_wp2_with fail
 refine (made_any R0 C0 r2 c1 c2 71 _ (fun k => fitC (lAt g.ls k) (C0 : Int)) W0 (enter_of Tryz.func71 (by kernel_rfl) (by kernel_rfl)) ?_).mono ?_
 ·intro k wr hk hb args hargs
  have ha2 : args = #[.int .i64 k, .pointer (some ⟨w.heap.size, 0, none⟩), .pointer (some ⟨w.heap.size + 1, 0, none⟩)] := by simpa using hargs
  subst ha2
  exact fit1_any (HG.out.later hb) hC k C0 c2 (HX.out.later hb) (HY.out.later hb)
 rintro e W3 ⟨G1, L1, M1, rfl, hg, hb, n1, n2, n3⟩
 have HX3 := hide (HX.out.later hb)
 have HG3 := hide (HG.out.later hb)
 have HN3 := hide hg
 have HB3 := hide (HB.out.trans (hb.mono HB.out.size))
 have H1 := hide (Nat.le_trans HB.out.size n1)
 have H2 := hide (Nat.le_trans HB.out.size n2)
 have H3 := hide (Nat.le_trans HB.out.size n3)
 clear hg hb n1 n2 n3 f0 f1
 have e1 : Hid (moveG ⟨gtab R0 (fun k => fitC (lAt g.ls k) (C0 : Int)), 0, 0⟩ g.row g.col C0 = fitG g R0 C0) := by
  unfold Hid moveG fitG
  simp only [gtab_len]
  congr 1
  exact gtab_eq fun i hi => (fitAtG_is _ _ _).symm
 have f0 : W3.cell? ⟨w.heap.size, 0, none⟩ = some (.pointer (some ⟨G, 0, none⟩)) := HX3.out.cell 0
 have l0 := HX3.out.lt
 obtain ⟨d0, d1, lG⟩ := HG3.out.cursor
 go_wp2
 refine rgL (fun w' => Below W3.heap.size W3 w') 11 [(0, 0), (0, 1), (0, 2), (0, 3), (0, 4), (0, 5), (1, 6), (1, 7), (1, 8), (1, 9), (1, 10), (3, 11)] bd1 ?_
 refine stL (h := ?_)
 refine stL (hy := fun w hS => by have f2 := (HX3.out.later hS).cell 0; go_simp <;> with_reducible rfl) (h := ?_)
 iterate 3 refine stL (h := ?_)
 refine stL (hy := fun w hS => by obtain ⟨b0, b1, -⟩ := (HG3.out.later hS).cursor; go_simp <;> with_reducible rfl) (h := ?_)
 refine alL fun K hK => ?_
 go_wp2
 refine hK.out _ _ bd1 ?_
 clear hK K
 refine alL fun K hK => ?_
 go_wp2
 refine hK.out _ _ bd1 ?_
 clear hK K
 refine alL fun K hK => ?_
 go_wp2
 refine hK.out _ _ bd1 ?_
 clear hK K
 refine alL fun K hK => ?_
 go_wp2
 refine hK.out _ _ bd1 ?_
 clear hK K
 refine alL fun K hK => ?_
 go_wp2
 refine hK.out _ _ bd1 ?_
 clear hK K
 refine laL fun K hK => ?_
 go_wp2_with fail
 refine (move_any (HN3.out.later bd1) r1 r2 c1 c2 g.row g.col).mono ?_
 rintro e k1 ⟨rfl, hg, ho⟩
 have HGk := hide hg; have HOk := hide ho; clear hg ho; go_wp2
 refine hK.out _ _ ?_
 clear hK K
 refine chainL_nil ?_
 go_wp2; go_ret2
 refine ⟨G1, L1, M1, rfl, by rw [← e1.out]; exact HGk.out, ?_, H1.out, H2.out, H3.out⟩
 exact HOk.out.below (HB3.out.drewN 1) HB3.out.size H1.out
theorem fit_no (h : Grd w G L M R C g) (r c : Int) (hs : ¬ sizeN r c) : Calls Tryz.prog 25 #[.pointer (some ⟨G, 0, none⟩), .int .i64 r, .int .i64 c] w fun e w' => e = .returned (.tuple #[.pointer none, .int .i64 11]) ∧ Below w.heap.size w w' := by
 obtain ⟨W0, hW0⟩ := exq ((w.alloc (.cells #[.pointer (some ⟨G, 0, none⟩)] 23)).alloc (.cells #[.int .i64 c] 3))
 have f0 : W0.cell? ⟨w.heap.size, 0, none⟩ = some (.pointer (some ⟨G, 0, none⟩)) := by rw [← hW0]; exact ((Whole.new w 23 [.pointer (some ⟨G, 0, none⟩)]).alloc _).cell 0
 have f1 : W0.cell? ⟨w.heap.size + 1, 0, none⟩ = some (.int .i64 c) := by rw [← hW0]; exact (whole_snd w _ 3 [.int .i64 c]).cell 0
 have HB : Hid (Below w.heap.size w W0) := by unfold Hid; rw [← hW0]; exact two_new _ _ _ _ _
 have HW0 := hide hW0; clear hW0 h
 by_cases h1 : sideB r = true
 ·have h2 : sideB c = false := by
   unfold sideB at *
   simp only [decide_eq_true_eq] at h1
   simp only [decide_eq_false_iff_not]
   intro q
   exact hs ⟨h1, q⟩
  have H1 := hide h1; have H2 := hide h2; clear h1 h2 hs
  go_enter Tryz.func25, Tryz.ntmps25
  go_wp2_with fail
  rw [HW0.out]
  refine (side_any r W0).mono ?_
  rintro e w1 ⟨rfl, rfl⟩
  rw [H1.out]
  go_wp2_with fail
  refine (side_any c W0).mono ?_
  rintro e w1 ⟨rfl, rfl⟩
  rw [H2.out]
  go_wp2; go_ret2
  exact ⟨rfl, HB.out⟩
 ·have H1 : Hid (sideB r = false) := by unfold Hid; simpa using h1
  clear h1 hs
  go_enter Tryz.func25, Tryz.ntmps25
  go_wp2_with fail
  rw [HW0.out]
  refine (side_any r W0).mono ?_
  rintro e w1 ⟨rfl, rfl⟩
  rw [H1.out]
  go_wp2; go_ret2
  exact ⟨rfl, HB.out⟩
end
end
end Go.Proofs.YtoddfaoifnkhlaaGreatDoor
