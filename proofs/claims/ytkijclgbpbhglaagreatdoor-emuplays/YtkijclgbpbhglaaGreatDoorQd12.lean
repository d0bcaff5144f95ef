/-
  Contracts and plain mathematics of GMade, GCat, GScr.
-/
import Derived.Test.YtkijclgbpbhglaaGreatDoorQd10
import Derived.Test.YtkijclgbpbhglaaGreatDoorQd11
import Derived.Lib.AppendZeros
namespace Go.Proofs.YtkijclgbpbhglaaGreatDoor
set_option maxRecDepth 100000
set_option linter.unusedVariables false
set_option maxHeartbeats 8000000
section
open Go.ChangeShapes Go.WideShapes Go.ChangeAt Go.RowKit
theorem whole_owned1 {w : World} {B : Nat} {e : TypeId} {g n : Nat} {xs : List Value} (h : w.ownsRow B e 1 (.slice (some ⟨g, 0, none⟩) n n) n xs) : Whole w g e xs := by
 rcases h.2 with ⟨h', _⟩ | ⟨g', cap', cur, h', hb, hg, hnc, hcm, hcs, htake⟩
 ·cases h'
 ·simp only [Value.slice.injEq, Option.some.injEq, Addr.mk.injEq, and_true, true_and] at h'
  obtain ⟨rfl, rfl⟩ := h'
  rw [List.take_of_length_le (Nat.le_of_eq (by rw [Array.length_toList, hcs]))] at htake
  subst htake
  exact hg
theorem zeros_rows (n : Nat) : (madeCells #[Value.slice none 0 0] n).toList = List.replicate n (.slice none 0 0) := by
 apply List.ext_getElem?
 intro j
 by_cases hj : j < n
 ·simp only [madeCells, Array.toList_map, List.getElem?_map, Array.toList_range, List.getElem?_range hj, Option.map_some, List.getElem?_replicate, if_pos hj]
  simp [Nat.mod_one]
 ·rw [List.getElem?_eq_none (by rw [Array.length_toList, size_madeCells]; omega), List.getElem?_eq_none (by simp; omega)]
theorem wpList_makeR {ops : Array Oper} {rest : List Oper} {o : Oper} {a : Act} {w : World} {Q : Exit → Act → World → Prop} (hg : o.guard = none) (x y : Operand) (hop : o.op = .makeSlice 109 x y)
  (n : Nat) (hx : a.eval x = .int .i64 n) (hy : a.eval y = .int .i64 n) (hn : n ≤ 1000000)
  (h : ∀ w', Whole w' w.heap.size 97 (List.replicate n (.slice none 0 0)) → Below w.heap.size w w' → wpList Tryz.prog ops Q rest (a.put o.dst (.slice (some ⟨w.heap.size, 0, none⟩) n n)) w') : wpList Tryz.prog ops Q (o :: rest) a w := by
 obtain ⟨i0, hi, hz0, hz1, hz2⟩ := info_parts elemRL.info
 have hb : 24 * n ≤ 24 * 1000000 := Nat.mul_le_mul (Nat.le_refl _) hn
 refine wpList_make_full w hg x y 109 hop w.heap.size 97 i0 _ 1 elemRL.under hi hz0 hz1 .i64 .i64 n n n hx hy rfl rfl (by rw [hz2]; omega) (by unfold maxLen; omega) (Nat.le_refl _) ?_
 intro w' ho hgr
 have hw := whole_owned1 ho
 rw [show (Value.slice none 0 0).cells = #[Value.slice none 0 0] from rfl, Nat.mul_one, zeros_rows] at hw
 exact h w' hw ⟨hgr.os, hgr.tape, hgr.output, hgr.size, fun i hi => hgr.block i hi (by simp)⟩
def rowsTo (M C R k : Nat) : List Value := rowsV M C (fun i => i) k ++ List.replicate (R - k) (.slice none 0 0)
theorem rowsTo_0 (M C R : Nat) : rowsTo M C R 0 = List.replicate R (.slice none 0 0) := by simp [rowsTo, rowsV]
theorem rowsTo_all (M C R : Nat) : rowsTo M C R R = rowsV M C (fun i => i) R ++ [] := by simp [rowsTo]
theorem rowsTo_len (M C R k : Nat) (h : k ≤ R) : (rowsTo M C R k).length = R := by unfold rowsTo; rw [List.length_append, rowsV_len, List.length_replicate]; omega
theorem rowsTo_next (M C R k : Nat) (h : k < R) : (rowsTo M C R k).set k (.slice (some ⟨M, k * C * 7, none⟩) C C) = rowsTo M C R (k + 1) := by
 apply List.ext_getElem?
 intro i
 rw [List.getElem?_set, rowsTo_len M C R k (by omega)]
 unfold rowsTo
 by_cases e : k = i
 ·subst e
  rw [if_pos rfl, if_pos h, List.getElem?_append_left (by rw [rowsV_len]; omega), rowsV_get _ _ _ _ _ (by omega)]
  rfl
 ·rw [if_neg e]
  by_cases h1 : i < k
  ·rw [List.getElem?_append_left (by rw [rowsV_len]; omega), List.getElem?_append_left (by rw [rowsV_len]; omega), rowsV_get _ _ _ _ _ h1, rowsV_get _ _ _ _ _ (by omega)]
  ·rw [List.getElem?_append_right (by rw [rowsV_len]; omega), List.getElem?_append_right (by rw [rowsV_len]; omega), rowsV_len, rowsV_len, List.getElem?_replicate, List.getElem?_replicate]
   by_cases h2 : i < R
   ·rw [if_pos (by omega), if_pos (by omega)]
   ·rw [if_neg (by omega), if_neg (by omega)]
theorem rowsTo_row (M C R k : Nat) (h : k < R) : (rowsTo M C R (k + 1))[k]? = some (.slice (some ⟨M, k * C * 7, none⟩) C C) := by
 unfold rowsTo
 rw [List.getElem?_append_left (by rw [rowsV_len]; omega), rowsV_get _ _ _ _ _ (by omega)]
 rfl
def Tells (C : Nat) (z : List Cel) (w : World) (e : Ending) (w' : World) : Prop := ∃ A c, e = .returned (.slice A C c) ∧ Below w.heap.size w w' ∧ Cels .i32 w' A z ∧ z.length = C
def NewGrd (R C : Nat) (g : Gd) (w : World) (G L M : Nat) (w' : World) : Prop := Grd w' G L M R C g ∧ Below w.heap.size w w' ∧ w.heap.size ≤ G ∧ w.heap.size ≤ L ∧ w.heap.size ≤ M
theorem made_any (R C : Nat) (hR : R ≤ 512) (hC1 : 1 ≤ C) (hC : C ≤ 512) (f : FuncId) (caps : Array Value) (F : Nat → List Cel) (w : World) (hfc : ∀ args w, (callFunc f args).run Tryz.prog w = .ok (.enter f args) w)
  (hf : ∀ (k : Nat) (wr : World), k < R → Below w.heap.size w wr → ∀ args, args = #[.int .i64 k] ++ caps → Calls Tryz.prog f args wr (Tells C (F k) wr)) :
  Calls Tryz.prog 67 #[.int .i64 R, .int .i64 C, .func (.func f) #[] caps] w fun e w' => ∃ G L M, e = .returned (.pointer (some ⟨G, 0, none⟩)) ∧ NewGrd R C ⟨gtab R F, 0, 0⟩ w G L M w' := by
 obtain ⟨N, hN⟩ := exq (R * C)
 have hN2 : N ≤ 262144 := by rw [← hN]; exact Nat.mul_le_mul hR hC
 have hmul : (R : Int) * (C : Int) = (N : Int) := by rw [← hN]; simp
 have HN := hide hN; clear hN
 go_enter Tryz.func67, Tryz.ntmps67
 go_wp2_with (at_make; refine stopw ?_)
 unfold Hid
 refine wpList_makeR rfl _ _ rfl R rfl rfl (by omega) ?_
 intro w1 hw1 hb1
 obtain ⟨GB, hGB⟩ := exq (w1.heap.size)
 obtain ⟨W1, hW1⟩ := exq (w1.alloc (.cells #[.int .i64 0, .int .i64 0, .slice (some ⟨w.heap.size, 0, none⟩) R R] 113))
 have HL1 : Hid (Whole W1 w.heap.size 97 (List.replicate R (.slice none 0 0))) := by unfold Hid; rw [← hW1]; exact hw1.alloc _
 have HG1 : Hid (Whole W1 GB 113 [.int .i64 0, .int .i64 0, .slice (some ⟨w.heap.size, 0, none⟩) R R]) := by unfold Hid; rw [← hW1, ← hGB]; exact Whole.new _ _ _
 have HB1 : Hid (Below w.heap.size w W1) := by unfold Hid; rw [← hW1]; exact hb1.alloc hb1.size _
 have HGB : Hid (w.heap.size ≤ GB) := by unfold Hid; rw [← hGB]; exact hb1.size
 have HW1 := hide hW1; have HGB1 := hide hGB; clear hw1 hb1 hW1 hGB
 go_wp2_with (at_make; refine stopw ?_)
 unfold Hid
 rw [HW1.out, HGB1.out]
 refine wpList_makeL elemL rfl _ _ rfl N rfl rfl (by omega) (by omega) ?_
 intro W2 hw2 hb2
 obtain ⟨MB, hMB⟩ := exq (W1.heap.size)
 rw [hMB] at hw2
 have HL2 := hide (HL1.out.later hb2)
 have HG2 := hide (HG1.out.later hb2)
 have HM2 := hide hw2
 have HB2 := hide (HB1.out.trans (hb2.mono HB1.out.size))
 have HMB : Hid (w.heap.size ≤ MB) := by unfold Hid; rw [← hMB]; exact HB1.out.size
 clear hw2 hb2 HL1 HG1
 obtain ⟨t0, t1, t2, lt⟩ := cells3 HG2.out
 have HMB1 := hide hMB; go_wp2; clear hMB t0 t1 t2 lt
 go_loopw [9, 10, 11, 25] (fun _ _ _ i wr => ∃ (k : Nat) (room : List Cel), k ≤ R ∧ i = .int .i64 k ∧ Whole wr w.heap.size 97 (rowsTo MB C R k) ∧ Whole wr GB 113 [.int .i64 0, .int .i64 0, .slice (some ⟨w.heap.size, 0, none⟩) R R] ∧ Whole wr MB 73 (flatC .i32 room) ∧ room.length = N ∧ (∀ q, q < k → partC room C q = F q) ∧ Below w.heap.size w wr) (fun _ _ _ i _ => R - (intOf i).toNat)
 case atStart => exact ⟨0, _, Nat.zero_le _, rfl, by rw [rowsTo_0]; exact HL2.out, HG2.out, HM2.out, by simp, fun q hq => by omega, HB2.out⟩
 case round =>
  obtain ⟨k, room, hk, rfl, hwL, hwG, hwM, hlen, hpart, hbel⟩ := hrel
  have HLk := hide hwL; have HGk := hide hwG; have HMk := hide hwM; have HRL := hide hlen; have HPk := hide hpart; have HBk := hide hbel; clear hwL hwG hwM hlen hpart hbel
  by_cases hlt : k < R
  ·obtain ⟨K1, hK1⟩ := exq (k * C)
   have hm1 : (k : Int) * (C : Int) = (K1 : Int) := by rw [← hK1]; simp
   obtain ⟨K2, hK2⟩ := exq (K1 + C)
   have hm2 : ((k : Int) + 1) * (C : Int) = (K2 : Int) := by rw [← hK2, ← hK1, Int.add_mul]; simp
   have HK2 : Hid (K1 + C ≤ N) := by unfold Hid; rw [← hK1]; exact mul_room hlt HN.out.symm
   have hl1 : K1 ≤ K2 := by omega
   have hl2 : K2 ≤ N := by have := HK2.out; omega
   have HKC : Hid (K2 - K1 = C) := by unfold Hid; omega
   have HK1 := hide hK1
   obtain ⟨t0, t1, t2, lt⟩ := cells3 HGk.out
   have hz := HLk.out.frozen
   have lL := HLk.out.lt
   obtain ⟨x0, hx0⟩ : ∃ x, wr.cell? ⟨w.heap.size, k, none⟩ = some x := ⟨_, by rw [HLk.out.cell, List.getElem?_eq_getElem (by rw [rowsTo_len _ _ _ _ hk]; exact hlt)]⟩
   have hne : ¬ N = K1 := by omega
   have HKK := hide hK2; clear hK1 hK2; go_wp2
   refine rgL (fun _ => True) 11 [(0, 0), (0, 4), (0, 5), (0, 6), (0, 7), (0, 8), (0, 1), (0, 2), (0, 9), (1, 3), (1, 10), (3, 11)] (trivial) ?_
   iterate 8 refine stL (h := ?_)
   refine chainL_take (v := .slice (some ⟨MB, K1 * 7, none⟩) C C) (by simp only [List.getElem?_toArray, List.getElem?_cons_zero, List.getElem?_cons_succ]; rfl) (by rfl) (fun w hS => ?_) ?_
   ·go_simp
    rw [HKC.out]
    exact ⟨fun q => absurd q (by have := HKK.out; omega), rfl⟩
   simp only [Act.put, List.setIfInBounds_toArray, List.set_cons_zero, List.set_cons_succ]
   refine alL fun K hK => ?_
   go_wp2
   refine hK.out _ _ (trivial) ?_
   clear hK K
   refine alL fun K hK => ?_
   go_wp2
   refine hK.out _ _ (trivial) ?_
   clear hK K
   refine laL fun K hK => ?_
   go_wp2
   refine hK.out _ _ ?_
   clear hK K
   refine chainL_nil ?_
   obtain ⟨W3, hW3⟩ := exq ((wr.setCell ⟨w.heap.size, k, none⟩ (.slice (some ⟨MB, K1 * 7, none⟩) C C)).drew)
   have HL3 : Hid (Whole W3 w.heap.size 97 (rowsTo MB C R (k + 1))) := by unfold Hid; rw [← hW3, ← rowsTo_next _ _ _ _ hlt, HK1.out]; exact (HLk.out.put k _).drew
   have HG3 : Hid (Whole W3 GB 113 [.int .i64 0, .int .i64 0, .slice (some ⟨w.heap.size, 0, none⟩) R R]) := by unfold Hid; rw [← hW3]; exact (HGk.out.far (Only.put k _) (HGk.out.ne HLk.out (by decide))).drew
   have HM3 : Hid (Whole W3 MB 73 (flatC .i32 room)) := by unfold Hid; rw [← hW3]; exact (HMk.out.far (Only.put k _) (HMk.out.ne HLk.out (by decide))).drew
   have HB3 : Hid (Below w.heap.size w W3) := by unfold Hid; rw [← hW3]; exact (HBk.out.setCell (p := ⟨w.heap.size, k, none⟩) (Nat.le_refl _) _).drewN 1
   have HRW : Hid ((rowsTo MB C R (k + 1))[k]? = some (.slice (some ⟨MB, K1 * 7, none⟩) C C)) := by unfold Hid; rw [rowsTo_row _ _ _ _ hlt, HK1.out]
   rw [hW3]
   clear hW3 t0 t1 t2 lt hz lL hx0 HLk HGk HMk HBk; go_wp2
   refine rgL (fun w' => Below W3.heap.size W3 w') 10 [(0, 0), (0, 4), (0, 7), (0, 8), (0, 1), (0, 2), (0, 3), (0, 5), (0, 6), (1, 9), (3, 10)] bd1 ?_
   iterate 6 refine stL (h := ?_)
   refine stL (hy := fun w hS => by obtain ⟨t0, t1, t2, -⟩ := cells3 (HG3.out.later hS); go_simp <;> with_reducible rfl) (h := ?_)
   refine stL (h := ?_)
   refine stL (hy := fun w hS => by have l0 := (HL3.out.later hS).cell k; rw [HRW.out] at l0; go_simp <;> with_reducible rfl) (h := ?_)
   refine alL fun K hK => ?_
   go_wp2_with fail
   refine (hf k W3.drew hlt ((HB3.out).drewN 1) _ rfl).mono ?_
   rintro e k1 ⟨A, c, rfl, hb, hc, hn⟩
   have Bk1 : Below W3.heap.size W3 k1 := bd1.trans hb
   clear hb
   obtain ⟨k2, hrun, hw2, ho2⟩ := run_copyL elemL k1 3 MB K1 73 room (F k) A C C C c (HM3.out.later Bk1) hc hn (by rw [HRL.out]; exact HK2.out)
   rw [List.take_of_length_le (Nat.le_of_eq hn)] at hw2
   have HO2 := hide ho2; have HW2 := hide hw2; have HFn := hide hn; have HBk1 := hide Bk1; clear hw2 ho2 hc hn; go_wp2
   refine hK.out _ _ (Bk1) ?_
   clear hK K
   refine laL fun K hK => ?_
   go_wp2
   refine hK.out _ _ ?_
   clear hK K
   refine chainL_nil ?_
   go_wp2
   go_roundw
   case rel =>
    refine ⟨k + 1, layC room K1 (F k), by omega, by go_num, ?_, ?_, HW2.out, ?_, ?_, ?_⟩
    ·exact (HL3.out.later HBk1.out).far HO2.out (HL3.out.ne HM3.out (by decide))
    ·exact (HG3.out.later HBk1.out).far HO2.out (HG3.out.ne HM3.out (by decide))
    ·rw [lay_len _ _ _ (by rw [HFn.out, HRL.out]; exact HK2.out), HRL.out]
    ·intro q hq
     rw [← HK1.out, part_lay room (F k) C q k R hlt (by omega) (by rw [HRL.out, HN.out]) HFn.out]
     split
     ·rename_i e; rw [e]
     ·rename_i e; exact HPk.out q (by omega)
    ·exact HO2.out.below (HB3.out.trans (HBk1.out.mono HB3.out.size)) (Nat.le_trans HB3.out.size HBk1.out.size) HMB.out
   case measure => simp [intOf]; omega
  ·obtain rfl : k = R := by omega
   go_wp2; go_ret
   refine ⟨GB, _, MB, rfl, ⟨k, fun i => i, room, [], ?_⟩, HBk.out, HGB.out, Nat.le_refl _, HMB.out⟩
   refine ⟨HGk.out, by rw [← rowsTo_all]; exact HLk.out, HMk.out, by rw [HRL.out, HN.out], Nat.le_refl _, by unfold maxLen; omega, fun i hi => hi, fun i j _ _ h => h, gtab_eq fun i hi => (HPk.out i hi).symm⟩
structure OwnV (B : Nat) (w wr : World) (v : Value) (xs : List Value) : Prop where
 own : wr.ownsRow B 97 1 v xs.length xs
 bel : Below B w wr
 le : B ≤ wr.heap.size
def Vals (w : World) (ad : Addr) (xs : List Value) : Prop := (∀ j u, xs[j]? = some u → w.cell? (ad.add j) = some u) ∧ ∀ u ∈ xs, u.oneCell' = true
theorem Vals.below {w w' : World} {ad : Addr} {xs : List Value} (h : Vals w ad xs) (hb : Below w.heap.size w w') : Vals w' ad xs := by
 refine ⟨fun j u hu => ?_, h.2⟩
 have := h.1 j u hu
 rw [hb.cell (World.block_lt_of_cell? w _ this), this]
theorem OwnV.later {B : Nat} {w wr w1 : World} {v : Value} {xs : List Value} (h : OwnV B w wr v xs) (hb : Below wr.heap.size wr w1) : OwnV B w w1 v xs := by
 refine ⟨⟨h.own.1, ?_⟩, h.bel.trans (hb.mono h.le), Nat.le_trans h.le hb.size⟩
 rcases h.own.2 with h0 | ⟨g, cap, cur, hv, hB, hh, h1⟩
 ·exact .inl h0
 ·refine .inr ⟨g, cap, cur, hv, hB, ?_, h1⟩
  rw [hb.block g (Array.getElem?_eq_some_iff.1 hh).1, hh]
theorem wpList_catV {ops : Array Oper} {rest : List Oper} {o : Oper} {a : Act} {Q : Exit → Act → World → Prop} {B : Nat} {w wr : World} {v : Value} {xs ns : List Value} {ad : Addr} {m c : Nat}
  (hgd : Region.wanted o (yielded ops a.tmps) = true) (s y : Operand) (ho : o.op = .call { callee := .builtin .append, args := #[s, y], argTypes := #[109, 109] })
  (hs : a.eval s = v) (hy : a.eval y = .slice (some ad) m c) (hown : OwnV B w wr v xs) (hns : Vals wr ad ns) (hn : ns.length = m) (hlen : xs.length + m ≤ 1000000)
  (h : ∀ v' w1, OwnV B w w1 v' (xs ++ ns) → wpList Tryz.prog ops Q rest (a.put o.dst v') w1) : wpList Tryz.prog ops Q (o :: rest) a wr := by
 subst hn
 obtain ⟨i0, hi, hz0, hz1, hz2⟩ := info_parts elemRL.info
 refine wpList_want hgd fun K hK => ?_
 refine wp_append_own _ s y 109 ho B 97 i0 (.slice none 0 0) 1 24 elemRL.under hi hz0 hz1 hz2 rfl (by decide) v xs.length xs hs hown.own ad ns.length c ns hy (by omega) hns.1 hns.2
  (by unfold maxLen; omega) (by omega) hown.le ?_
 intro v' w1 h1 hg _
 exact hK _ _ (h v' w1 ⟨by rw [List.length_append]; exact h1, hown.bel.grown hg hown.le (own_ge hown.own), Nat.le_trans hown.le hg.size⟩)
theorem grow_room (n : Nat) (h1 : 1 ≤ n) (h2 : n ≤ 1000) (w : World) : Calls Tryz.prog 198 #[.slice none 0 0, .int .i64 n] w fun e w' => ∃ v, e = .returned v ∧ OwnV w.heap.size w w' v [] := by
 obtain ⟨i0, hi, hz0, hz1, hz2⟩ := info_parts elemRL.info
 have hrun := fun (ty : TypeId) => Lib.run_append_nil_zeros (P := Tryz.prog) w 109 3 ty 97 i0 (.slice none 0 0) .i64 .i64 elemRL.under Tryz.underlying3 hi hz0 n (by omega) (by omega) (by omega) (by rw [hz2]; omega)
 obtain ⟨cap, hcap⟩ := exq (grownCap w n 0 97)
 have hc1 : n ≤ cap := by rw [← hcap]; exact grownCap_ge _ _ _ _
 have hc2 : cap ≤ maxLen := by rw [← hcap]; exact grownCap_le_maxLen _ _ _ _ (by unfold maxLen; omega)
 rw [hcap] at hrun
 obtain ⟨W1, hW1⟩ := exq (w.drew.alloc (.cells (Builtin.zeroCells (Value.slice none 0 0).cells n ++ Builtin.zeroCells (Value.slice none 0 0).cells (cap - n)) 97))
 have HO : Hid (OwnV w.heap.size w W1 (.slice (some ⟨w.heap.size, 0, none⟩) 0 cap) []) := by
  unfold Hid
  rw [← hW1]
  refine ⟨⟨rfl, .inr ⟨w.heap.size, cap, _, rfl, Nat.le_refl _, heap_alloc_new _ _, Nat.zero_le _, hc2, ?_, rfl⟩⟩, bd1.alloc (Nat.le_refl _) _, by simp⟩
  have hzc : ∀ m, (Builtin.zeroCells (Value.slice none 0 0).cells m).size = m := by
   intro m
   simp [Builtin.zeroCells, Value.cells]
  rw [Array.size_append, hzc, hzc]
  omega
 rw [hW1] at hrun
 have HR := hide hrun
 unfold maxLen at hc2
 clear hrun hW1 hcap hi hz0 hz1 hz2
 go_enter Tryz.func198, Tryz.ntmps198
 go_wp2_with (at_builtin; refine stopw ?_)
 unfold Hid
 refine Lib.wpList_append_run _ rfl _ _ _ _ rfl _ _ rfl rfl _ _ (HR.out _) ?_
 go_wp2; go_ret
 exact ⟨_, rfl, HO.out⟩
theorem OwnV.form {B : Nat} {w wr : World} {v : Value} {xs : List Value} (h : OwnV B w wr v xs) (hx : xs ≠ []) : ∃ g cap more, v = .slice (some ⟨g, 0, none⟩) xs.length cap ∧ B ≤ g ∧ Whole wr g 97 (xs ++ more) ∧ xs.length ≤ cap ∧ cap ≤ maxLen := by
 rcases h.own.2 with ⟨rfl, h0⟩ | ⟨g, cap, cur, rfl, hB, hh, hc, hm, hs, ht⟩
 ·exact absurd (List.eq_nil_of_length_eq_zero h0) hx
 ·refine ⟨g, cap, cur.toList.drop xs.length, rfl, hB, ?_, hc, hm⟩
  rw [Nat.mul_one] at ht
  have e := List.take_append_drop xs.length cur.toList
  rw [ht] at e
  unfold Whole
  rw [e]
  simpa using hh
def sumF (nn : Nat → Nat) : Nat → Nat
 | 0 => 0
 | k + 1 => sumF nn k + nn k
def joinF (vs : Nat → List Value) : Nat → List Value
 | 0 => []
 | k + 1 => joinF vs k ++ vs k
theorem joinF_len (vs : Nat → List Value) (nn : Nat → Nat) (h : ∀ k, (vs k).length = nn k) (k : Nat) : (joinF vs k).length = sumF nn k := by
 induction k with
 | zero => rfl
 | succ k ih => unfold joinF sumF; rw [List.length_append, ih, h]
theorem sumF_mono (nn : Nat → Nat) (k : Nat) (h : k ≤ 2) : sumF nn k ≤ sumF nn 2 := by
 have e2 : sumF nn 2 = 0 + nn 0 + nn 1 := rfl
 match k, h with
 | 0, _ => exact Nat.zero_le _
 | 1, _ => have e1 : sumF nn 1 = 0 + nn 0 := rfl; omega
 | 2, _ => exact Nat.le_refl _
theorem concat_fn (X : Nat) (ad : Nat → Addr) (nn cc : Nat → Nat) (vs : Nat → List Value) (w : World) (lX : X < w.heap.size) (hX : ∀ k, k < 2 → w.cell? ⟨X, k, none⟩ = some (.slice (some (ad k)) (nn k) (cc k))) (hx : ∀ k, Vals w (ad k) (vs k)) (hn : ∀ k, (vs k).length = nn k) (h1 : 1 ≤ sumF nn 2) (h2 : sumF nn 2 ≤ 1000) :
  Calls Tryz.prog 177 #[.slice (some ⟨X, 0, none⟩) 2 2] w fun e w' => ∃ v, e = .returned v ∧ OwnV w.heap.size w w' v (joinF vs 2) := by
 have HX := hide hX; have Hx := hide hx; have HN := hide hn; clear hx hX hn
 go_enter Tryz.func177, Tryz.ntmps177
 go_wp2
 go_loopw [3, 5, 11] (fun s _ i wr => ∃ k : Nat, k ≤ 2 ∧ i = .int .i64 k ∧ s = .int .i64 (sumF nn k : Int) ∧ w = wr) (fun _ _ i _ => 2 - (intOf i).toNat)
 case atStart => exact ⟨0, by omega, rfl, rfl, rfl⟩
 case round =>
  obtain ⟨k, hk, rfl, rfl, rfl⟩ := hrel
  by_cases hlt : k < 2
  ·have b0 := HX.out k hlt
   have HS : Hid (sumF nn (k + 1) = sumF nn k + nn k) := rfl
   have hs1 : sumF nn k + nn k ≤ 1000 := by have := sumF_mono nn (k + 1) hlt; rw [HS.out] at this; omega
   go_wp2
   go_roundw
   case rel => exact ⟨k + 1, by omega, by go_num, by rw [HS.out]; go_num, by trivial⟩
   case measure => simp [intOf]; omega
  ·obtain rfl : k = 2 := by omega
   obtain ⟨N, hN⟩ := exq (sumF nn 2)
   rw [hN] at h1 h2 ⊢
   have HNN := hide hN; clear hN; go_wp2_with fail
   refine (grow_room N h1 h2 w).mono ?_
   rintro e w1 ⟨v, rfl, hown⟩
   have HV := hide hown; clear hown; go_wp2
   go_loopw [6, 8, 27] (fun s _ i wr => ∃ k : Nat, k ≤ 2 ∧ i = .int .i64 k ∧ OwnV w.heap.size w wr s (joinF vs k)) (fun _ _ i _ => 2 - (intOf i).toNat)
   case atStart => exact ⟨0, by omega, rfl, HV.out⟩
   case round =>
    obtain ⟨k, hk, rfl, hown⟩ := hrel
    have HO := hide hown; clear hown
    by_cases hlt2 : k < 2
    ·have b0 : wr.cell? ⟨X, k, none⟩ = some (.slice (some (ad k)) (nn k) (cc k)) := by
      have := HX.out k hlt2
      rw [HO.out.bel.cell lX, this]
     have lX2 : X < wr.heap.size := Nat.lt_of_lt_of_le lX HO.out.bel.size
     have HL : Hid ((joinF vs k).length + nn k ≤ 1000000) := by
      unfold Hid
      rw [joinF_len vs nn HN.out k]
      have e : sumF nn (k + 1) = sumF nn k + nn k := rfl
      have := sumF_mono nn (k + 1) hlt2
      have := HNN.out
      omega
     go_wp2_with (at_builtin; refine stopw ?_)
     unfold Hid
     refine wpList_catV rfl _ _ rfl rfl rfl HO.out ((Hx.out k).below HO.out.bel) (HN.out k) HL.out ?_
     intro v' w2 hown
     have HO2 : Hid (OwnV w.heap.size w w2 v' (joinF vs (k + 1))) := hown
     clear hown b0 lX2; go_wp2
     go_roundw
     case rel => exact ⟨k + 1, by omega, by go_num, HO2.out⟩
     case measure => simp [intOf]; omega
    ·obtain rfl : k = 2 := by omega
     go_wp2; go_ret
     exact ⟨_, rfl, HO.out⟩
theorem concat_any (X : Nat) (a1 a2 : Addr) (n1 n2 c1 c2 : Nat) (xs ys : List Value) (w : World) (hX : Whole w X 109 [.slice (some a1) n1 c1, .slice (some a2) n2 c2]) (hx : Vals w a1 xs) (hy : Vals w a2 ys) (hn1 : xs.length = n1) (hn2 : ys.length = n2) (h1 : 1 ≤ n1 + n2) (h2 : n1 + n2 ≤ 1000) :
  Calls Tryz.prog 177 #[.slice (some ⟨X, 0, none⟩) 2 2] w fun e w' => ∃ v, e = .returned v ∧ OwnV w.heap.size w w' v (xs ++ ys) := by
 have := concat_fn X (fun k => if k = 0 then a1 else a2) (fun k => if k = 0 then n1 else n2) (fun k => if k = 0 then c1 else c2) (fun k => if k = 0 then xs else ys) w hX.lt
  (fun k hk => by
   match k, hk with
   | 0, _ => exact hX.cell 0
   | 1, _ => exact hX.cell 1)
  (fun k => by by_cases q : k = 0 <;> simp [q, hx, hy]) (fun k => by by_cases q : k = 0 <;> simp [q, hn1, hn2]) (by simpa [sumF] using h1) (by simpa [sumF] using h2)
 simpa [joinF] using this
def rotI (R up i : Nat) : Nat := if i < R - up then i + up else i - (R - up)
theorem rotI_lt {R up i : Nat} (h : up ≤ R) (hi : i < R) : rotI R up i < R := by unfold rotI; split <;> omega
theorem rotI_inj {R up i j : Nat} (h : up ≤ R) (hi : i < R) (hj : j < R) (e : rotI R up i = rotI R up j) : i = j := by
 unfold rotI at e
 split at e <;> split at e <;> omega
theorem rows_rot (M C : Nat) (ps : Nat → Nat) (R up : Nat) (h : up ≤ R) : (rowsV M C ps R).drop up ++ (rowsV M C ps R).take up = rowsV M C (fun i => ps (rotI R up i)) R := by
 apply List.ext_getElem?
 intro i
 by_cases hi : i < R
 ·rw [rowsV_get _ _ _ _ _ hi]
  by_cases h1 : i < R - up
  ·rw [List.getElem?_append_left (by rw [List.length_drop, rowsV_len]; exact h1), List.getElem?_drop, rowsV_get _ _ _ _ _ (by omega)]
   unfold rowV rotI
   simp only [if_pos h1, Nat.add_comm up i]
  ·rw [List.getElem?_append_right (by rw [List.length_drop, rowsV_len]; omega), List.length_drop, rowsV_len, List.getElem?_take, if_pos (by omega), rowsV_get _ _ _ _ _ (by omega)]
   unfold rowV rotI
   simp only [if_neg h1]
 ·rw [List.getElem?_eq_none (by rw [List.length_append, List.length_drop, List.length_take, rowsV_len]; omega), List.getElem?_eq_none (by rw [rowsV_len]; omega)]
def rotG (g : Gd) (R C up come k : Nat) (p : Pn) : Gd := { g with ls := gtab R (fun i => if come ≤ i ∧ i < come + k then tab C (fun _ => blankC p) else lAt g.ls (rotI R up i)) }
section
variable {w w' : World} {G L M R C : Nat} {g : Gd} {cap : Nat} {ps : Nat → Nat} {room : List Cel} {more : List Value}
theorem GridAt.vals (h : GridAt w G L M R C g cap ps room more) {up : Nat} (hu : up ≤ R) {A1 : Addr} (hA : A1 = if cap = up then ⟨L, 0, none⟩ else ⟨L, up, none⟩) : Vals w A1 ((rowsV M C ps R).drop up) ∧ Vals w ⟨L, 0, none⟩ ((rowsV M C ps R).take up) := by
 have hadd : ∀ o j, (⟨L, o, none⟩ : Addr).add j = ⟨L, o + j, none⟩ := fun o j => by unfold Addr.add; split <;> simp_all
 have hone : ∀ u ∈ rowsV M C ps R, u.oneCell' = true := by
  intro u hu
  obtain ⟨i, _, rfl⟩ := List.mem_map.1 hu
  rfl
 refine ⟨⟨fun j u hj => ?_, fun u hu => hone u (List.mem_of_mem_drop hu)⟩, ⟨fun j u hj => ?_, fun u hu => hone u (List.mem_of_mem_take hu)⟩⟩
 ·rw [List.getElem?_drop] at hj
  have hl := (List.getElem?_eq_some_iff.1 hj).1
  rw [rowsV_len] at hl
  have hc := h.cap1
  subst hA
  rw [if_neg (by omega), hadd, h.lines.cell, List.getElem?_append_left (by rw [rowsV_len]; exact hl), hj]
 ·rw [List.getElem?_take] at hj
  split at hj
  ·have hl := (List.getElem?_eq_some_iff.1 hj).1
   rw [hadd, h.lines.cell, Nat.zero_add, List.getElem?_append_left hl, hj]
  ·cases hj
theorem GridAt.rot (h : GridAt w G L M R C g cap ps room more) {up come : Nat} (hu : up ≤ R) {p : Pn} {L2 cap2 : Nat} {more2 : List Value} (hw : Whole w L2 97 ((rowsV M C ps R).drop up ++ (rowsV M C ps R).take up ++ more2)) (h1 : R ≤ cap2) (h2 : cap2 ≤ maxLen) :
  GridAt (w.setCell ⟨G, 2, none⟩ (.slice (some ⟨L2, 0, none⟩) R cap2)) G L2 M R C (rotG g R C up come 0 p) cap2 (fun i => ps (rotI R up i)) room more2 := by
 refine ⟨h.top.put 2 _, ?_, h.piece.far (Only.put _ _) (Ne.symm h.neGM), h.len, h1, h2, fun i hi => h.perm _ (rotI_lt hu hi), fun i j hi hj e => rotI_inj hu hi hj (h.inj _ _ (rotI_lt hu hi) (rotI_lt hu hj) e), ?_⟩
 ·rw [← rows_rot _ _ _ _ _ hu]
  exact hw.far (Only.put _ _) (hw.ne h.top (by decide))
 ·refine gtab_eq fun i hi => ?_
  rw [if_neg (by omega), h.lAt (rotI_lt hu hi)]
theorem Spans.turn (hS : Spans w) (hg : Grd w G L M R C g) (hR : 1 ≤ R) (ht : Trn G L M w w') : Spans w' := by
 obtain ⟨cap, ps, room, more, h⟩ := hg
 have e0 : w.cell? ⟨0, 0, none⟩ = some (.int .i32 0) := hS 0 (.int .i32 0) rfl
 have e2 : ∃ x, w.cell? ⟨0, 2, none⟩ = some (.int .i64 x) := ⟨_, hS 2 _ rfl⟩
 have lt := hS.size
 have hG : 0 ≠ G := by
  rintro rfl
  rw [h.top.cell] at e0
  simp at e0
 have hL : 0 ≠ L := by
  rintro rfl
  rw [h.row (i := 0) (by omega)] at e0
  cases e0
 have hM : 0 ≠ M := by
  rintro rfl
  obtain ⟨x, e2⟩ := e2
  rw [h.piece.cell] at e2
  have hm := List.mem_of_getElem? e2
  unfold flatC at hm
  obtain ⟨c, _, hc⟩ := List.mem_flatMap.1 hm
  simp [cellL] at hc
 intro j v hv
 have := hS j v hv
 have hb := ht.block 0 lt hG hL hM
 unfold World.cell? at this ⊢
 simp only at this ⊢
 rw [hb]
 exact this
end
theorem rotG_next (g : Gd) (R C up come k j : Nat) (p : Pn) (hj : j = come + k) (hp : rightN p = true) (hk : j < R) (hl : ∀ i, i < R → (lAt g.ls i).length = C) (hu : up ≤ R) : eraseG (rotG g R C up come k p) (j : Int) 0 (C : Int) p = rotG g R C up come (k + 1) p := by
 subst hj; unfold eraseG
 have hlen : (rotG g R C up come k p).ls.length = R := gtab_len _ _
 rw [if_pos ⟨by unfold hasG; rw [hlen]; omega, hp⟩, Int.toNat_natCast]
 have e1 : ∀ i, i < R → lAt (rotG g R C up come k p).ls i = if come ≤ i ∧ i < come + k then tab C (fun _ => blankC p) else lAt g.ls (rotI R up i) := fun i hi => gtab_lAt _ _ _ hi
 have e2 : eraseC (lAt (rotG g R C up come k p).ls (come + k)) 0 (C : Int) p = tab C (fun _ => blankC p) := by
  refine erase_all _ C ?_ p
  rw [e1 _ hk, if_neg (by omega)]
  exact hl _ (rotI_lt hu hk)
 rw [e2, set_gtab, hlen]
 show ({ ls := _, row := g.row, col := g.col } : Gd) = { ls := _, row := g.row, col := g.col }
 congr 1
 refine gtab_eq fun i hi => ?_
 rw [e1 i hi]
 by_cases q : i = come + k
 ·rw [if_pos q, if_pos (by omega)]
 ·rw [if_neg q]
  by_cases q2 : come ≤ i ∧ i < come + k
  ·rw [if_pos q2, if_pos (by omega)]
  ·rw [if_neg q2, if_neg (by omega)]
theorem rotG_up (g : Gd) (R C m : Nat) (n : Int) (p : Pn) (hp : rightN p = true) (hR : g.ls.length = R) (hn : clampI n R = (m : Int)) (hm : m ≤ R) : rotG g R C m (R - m) m p = scrollG g C n p := by
 unfold rotG scrollG
 rw [if_pos hp, hR, hn]
 congr 1
 refine gtab_eq fun i hi => ?_
 unfold scrollAt rotI
 rw [hR]
 by_cases q : i < R - m
 ·rw [if_neg (by omega), if_pos q, if_pos (by omega)]
  congr 1
 ·rw [if_pos (by omega), if_neg (by omega)]
theorem rotG_down (g : Gd) (R C m : Nat) (n : Int) (p : Pn) (hp : rightN p = true) (hR : g.ls.length = R) (hn : clampI n R = -(m : Int)) (hm : m ≤ R) : rotG g R C (R - m) 0 m p = scrollG g C n p := by
 unfold rotG scrollG
 rw [if_pos hp, hR, hn]
 congr 1
 refine gtab_eq fun i hi => ?_
 unfold scrollAt rotI
 rw [hR]
 by_cases q : i < m
 ·rw [if_pos (by omega), if_neg (by omega)]
 ·rw [if_neg (by omega), if_neg (by omega), if_pos (by omega)]
  congr 1
  omega
section
variable {w : World} {G L M R C : Nat} {g : Gd}
def Scrolled (R C : Nat) (g' : Gd) (w : World) (G L M : Nat) (e : Ending) (w' : World) : Prop := e = .returned (.tuple #[]) ∧ ∃ L', Grd w' G L' M R C g' ∧ Trn G L M w w' ∧ (L' = L ∨ w.heap.size ≤ L')
theorem scroll_up (h : Grd w G L M R C g) (hR : 1 ≤ R) (hR2 : R ≤ 512) (hC : 1 ≤ C) (hC2 : C ≤ 512) (hS : Spans w) (n : Int) (f y b : Nat) (hp : rightN ⟨f, y, b⟩ = true) (m come : Nat) (hm : m ≤ R) (hcome : R - m = come) (hn : clampI n R = (m : Int)) :
  Calls Tryz.prog 148 #[.pointer (some ⟨G, 0, none⟩), .int .i64 n, .agg #[.int .u8 f, .int .u8 y, .int .u8 b]] w (Scrolled R C (scrollG g C n ⟨f, y, b⟩) w G L M) := by
 obtain ⟨W0, hW0⟩ := exq (w.alloc (.cells #[.int .u8 f, .int .u8 y, .int .u8 b] 65))
 have HB0 : Hid (Below w.heap.size w W0) := by unfold Hid; rw [← hW0]; exact (Below.refl _ _).alloc (Nat.le_refl _) _
 have HS0 : Hid (Spans W0) := by unfold Hid; rw [← hW0]; exact hS.alloc _
 have HP0 : Hid (Whole W0 w.heap.size 65 [.int .u8 f, .int .u8 y, .int .u8 b]) := by unfold Hid; rw [← hW0]; exact Whole.new _ _ _
 have HEnd : Hid (rotG g R C m come m ⟨f, y, b⟩ = scrollG g C n ⟨f, y, b⟩) := by unfold Hid; rw [← hcome]; exact rotG_up g R C m n ⟨f, y, b⟩ hp h.glen hn hm
 have HLs : Hid (∀ i, i < R → (lAt g.ls i).length = C) := by unfold Hid; obtain ⟨_, _, _, _, ha⟩ := h; exact fun i hi => ha.lenAt hi
 have HltG := hide h.ltG; have HltL := hide h.ltL; have HltM := hide h.ltM; have HPR := hide hp; have HW0 := hide hW0
 have HG0 := hide (h.later HB0.out)
 have hcl : min (max n (-(R : Int))) (R : Int) = (m : Int) := hn
 have hi1 : (R : Int) - (m : Int) = (come : Int) := by omega
 have hi2 : (come : Int) + (m : Int) = (R : Int) := by omega
 have hi3 : come ≤ R := by omega
 have hcome0 := hide hcome
 obtain ⟨a0, a1, a2, lP⟩ := cells3 HP0.out
 clear hW0 h hn hp hS hcome
 go_enter Tryz.func148, Tryz.ntmps148
 go_wp2_with fail
 rw [HW0.out]
 refine (right_any f y b W0).mono ?_
 rintro e W1 ⟨rfl, hb⟩
 rw [HPR.out]
 have HB := hide (HB0.out.trans (hb.mono HB0.out.size))
 have HS := hide (HS0.out.below hb)
 have HP := hide (HP0.out.later hb)
 have HG := hide (HG0.out.later hb)
 clear a0 a1 a2 lP hb HB0 HS0 HP0 HG0
 obtain ⟨cap, ps, room, more, ha⟩ := HG.out
 have HA := hide ha
 obtain ⟨c0, c1, c2, lG, lL, lM⟩ := ha.three
 have hcap := ha.cap1
 have hcap2 := ha.cap2
 unfold maxLen at hcap2
 obtain ⟨A1, hA1⟩ : ∃ A1 : Addr, (if cap = m then (⟨L, 0, none⟩ : Addr) else ⟨L, m, none⟩) = A1 := ⟨_, rfl⟩
 have HV1 := hide (ha.vals (up := m) (by omega) hA1.symm).1
 have HV2 := hide (ha.vals (up := m) (by omega) hA1.symm).2
 have HA1 := hide hA1; clear hA1 ha; go_wp2
 refine rgL (fun w' => Below W1.heap.size W1 w') 17 [(0, 0), (0, 1), (0, 5), (0, 7), (0, 11), (0, 2), (0, 3), (0, 8), (0, 9), (0, 4), (0, 6), (1, 10), (1, 12), (1, 13), (1, 14), (1, 15), (1, 16), (3, 17)] bd1 ?_
 iterate 9 refine stL (h := ?_)
 refine stL (hy := fun w hS => by obtain ⟨b0, b1, b2, -⟩ := cells3 (HA.out.top.later hS); go_simp <;> with_reducible rfl) (h := ?_)
 refine chainL_take (v := .slice (some A1) (R - m) (cap - m)) (by simp only [List.getElem?_toArray, List.getElem?_cons_zero, List.getElem?_cons_succ]; rfl) (by rfl) (fun w hS => ?_) ?_
 ·rw [← HA1.out]
  go_simp
  split <;> rfl
 simp only [Act.put, List.setIfInBounds_toArray, List.set_cons_zero, List.set_cons_succ]
 refine alL fun K hK => ?_
 go_wp2
 refine hK.out _ _ bd1 ?_
 clear hK K
 refine alL fun K hK => ?_
 go_wp2
 refine hK.out _ _ bd1 ?_
 clear hK K
 refine alL fun K hK => ?_
 go_wp2
 refine hK.out _ _ (((Below.refl _ _).alloc (Nat.le_refl _) _).drewN 1) ?_
 clear hK K
 refine alL fun K hK => ?_
 go_wp2_with fail
 refine (concat_any W1.heap.size A1 ⟨L, 0, none⟩ (R - m) m (cap - m) cap (((rowsV M C ps R).drop m)) ((rowsV M C ps R).take m) _ ?_ (HV1.out.below ?_) (HV2.out.below ?_) (by rw [List.length_drop, rowsV_len]) (by rw [List.length_take, rowsV_len]; omega) (by omega) (by omega)).mono ?_
 ·exact (Whole.new W1 109 [.slice (some A1) (R - m) (cap - m), .slice (some ⟨L, 0, none⟩) m cap]).drewN 1
 ·exact ((Below.refl _ _).alloc (Nat.le_refl _) _).drewN 1
 ·exact ((Below.refl _ _).alloc (Nat.le_refl _) _).drewN 1
 rintro e k1 ⟨v, rfl, hown⟩
 obtain ⟨L2, cap2, more2, rfl, hL2, hw2, hc2, hm2⟩ := hown.form (by intro q; have := congrArg List.length q; rw [List.length_append, List.length_drop, List.length_take, rowsV_len] at this; simp at this; omega)
 have Bk1 : Below W1.heap.size W1 k1 := (((Below.refl W1.heap.size W1).alloc (Nat.le_refl _) _).drewN 1).trans (hown.bel.mono (by simp))
 rw [show ((rowsV M C ps R).drop m ++ (rowsV M C ps R).take m).length = R by rw [List.length_append, List.length_drop, List.length_take, rowsV_len]; omega] at hc2 ⊢
 have HW2 := hide hw2
 have HL2 : Hid (W1.heap.size ≤ L2) := by unfold Hid; have : (W1.alloc (.cells #[.slice (some A1) (R - m) (cap - m), .slice (some ⟨L, 0, none⟩) m cap] 109)).heap.size ≤ L2 := hL2; simp at this; omega
 have HC2 := hide hc2; have HM2 := hide hm2; have HBk := hide Bk1
 have HAk := hide (HA.out.later Bk1)
 clear hw2 hL2 hc2 hm2 hown c0 c1 c2 lG lL lM
 obtain ⟨b0, b1, b2, lG⟩ := cells3 HAk.out.top
 have hz := HAk.out.top.frozen
 go_wp2
 refine hK.out _ _ (Bk1) ?_
 clear hK K
 refine alL fun K hK => ?_
 go_wp2
 refine hK.out _ _ (Bk1) ?_
 clear hK K
 refine alL fun K hK => ?_
 go_wp2
 refine hK.out _ _ (Bk1) ?_
 clear hK K
 refine laL fun K hK => ?_
 go_wp2
 refine hK.out _ _ ?_
 clear hK K
 refine chainL_nil ?_
 have HA2 := hide (HAk.out.rot (up := m) (come := come) (p := ⟨f, y, b⟩) (by omega) HW2.out HC2.out HM2.out)
 obtain ⟨W2, hW2⟩ := exq (k1.setCell ⟨G, 2, none⟩ (.slice (some ⟨L2, 0, none⟩) R cap2))
 rw [hW2] at HA2 ⊢
 have HT2 : Hid (Trn G L M w W2) := by unfold Hid; rw [← hW2]; exact Trn.ofB (HB.out.trans (HBk.out.mono HB.out.size)) (Trn.of_onlyG (Only.put _ _))
 have HP2 : Hid (Whole W2 w.heap.size 65 [.int .u8 f, .int .u8 y, .int .u8 b]) := by unfold Hid; rw [← hW2]; exact (HP.out.later HBk.out).far (Only.put _ _) ((HP.out.later HBk.out).ne HAk.out.top (by decide))
 have HS2 : Hid (Spans W2) := by unfold Hid; rw [← hW2]; exact (HS.out.below HBk.out).turn (.of HAk.out) hR (Trn.of_onlyG (Only.put _ _))
 have HL2n : Hid (w.heap.size ≤ L2) := by unfold Hid; exact Nat.le_trans HB.out.size HL2.out
 clear hW2 b0 b1 b2 lG hz Bk1; go_wp2
 go_loopw [9] (fun i wr => ∃ (j k : Nat), j = come + k ∧ k ≤ m ∧ i = .int .i64 j ∧ Grd wr G L2 M R C (rotG g R C m come k ⟨f, y, b⟩) ∧ Trn G L M w wr ∧ Whole wr w.heap.size 65 [.int .u8 f, .int .u8 y, .int .u8 b] ∧ Spans wr) (fun i _ => R - (intOf i).toNat)
 case atStart => exact ⟨come, 0, rfl, Nat.zero_le _, rfl, .of HA2.out, HT2.out, HP2.out, HS2.out⟩
 case round =>
  obtain ⟨j, k, hj, hk, rfl, hg, ht, hp, hs⟩ := hrel
  have HJ := hide hj; have HGk := hide hg; have HTk := hide ht; have HPk := hide hp; have HSk := hide hs; have HKm := hide hk; clear hg ht hp hs
  by_cases hlt : j < R
  ·have HJR : Hid (j < R) := by unfold Hid; omega
   have hjm : j ≤ 512 := by omega
   have HKlt : Hid (k < m) := by unfold Hid; omega
   clear hj hk; go_wp2
   refine rgL (fun w' => Below wr.heap.size wr w') 5 [(0, 0), (0, 1), (0, 2), (0, 4), (1, 3), (3, 5)] bd1 ?_
   iterate 3 refine stL (h := ?_)
   refine stL (hy := fun w hS => by obtain ⟨a0, a1, a2, -⟩ := cells3 (HPk.out.later hS); go_simp <;> with_reducible rfl) (h := ?_)
   refine alL fun K hK => ?_
   go_wp2_with fail
   refine (cols_any (HGk.out.later bd1) hR).mono ?_
   rintro e k1 ⟨rfl, rfl⟩
   go_wp2
   refine hK.out _ _ bd1 ?_
   clear hK K
   refine laL fun K hK => ?_
   go_wp2_with fail
   refine (gerase_any (HGk.out.later bd1) hC2 HSk.out.drew (j : Int) 0 C f y b).mono ?_
   rintro e k1 ⟨rfl, hg, ht⟩
   have HG1 := hide hg; have HT0 := hide ht; clear hg ht; go_wp2
   refine hK.out _ _ ?_
   clear hK K
   refine chainL_nil ?_
   have HGn : Hid (Grd k1 G L2 M R C (rotG g R C m come (k + 1) ⟨f, y, b⟩)) := by unfold Hid; rw [← rotG_next g R C m come k j ⟨f, y, b⟩ HJ.out HPR.out HJR.out HLs.out (by omega)]; exact HG1.out
   have HTn : Hid (Trn G L M w k1) := by unfold Hid; exact HTk.out.trans (Trn.ofB ((Below.refl wr.heap.size wr).drewN 1) HT0.out) (.inr HL2n.out)
   have HSn : Hid (Spans k1) := by unfold Hid; exact HSk.out.drew.turn (HGk.out.later bd1) hR HT0.out
   have HPn : Hid (Whole k1 w.heap.size 65 [.int .u8 f, .int .u8 y, .int .u8 b]) := by
    unfold Hid
    obtain ⟨_, _, _, _, hat⟩ := HGk.out
    exact HT0.out.whole HPk.out.drew (HPk.out.ne hat.top (by decide)) (HPk.out.ne hat.lines (by decide)) (HPk.out.ne hat.piece (by decide))
   go_wp2
   go_roundw
   case rel => exact ⟨j + 1, k + 1, by rw [HJ.out]; omega, HKlt.out, by go_num, HGn.out, HTn.out, HPn.out, HSn.out⟩
   case measure => simp [intOf]; omega
  ·obtain rfl : k = m := by omega
   clear hj hk; go_wp2
   exact bodyPost_end (v := .tuple #[]) (by simp [results, Tryz.results148]) rfl ⟨rfl, L2, by rw [← HEnd.out]; exact HGk.out, HTk.out, .inr HL2n.out⟩
theorem scroll_down (h : Grd w G L M R C g) (hR : 1 ≤ R) (hR2 : R ≤ 512) (hC : 1 ≤ C) (hC2 : C ≤ 512) (hS : Spans w) (n : Int) (f y b : Nat) (hp : rightN ⟨f, y, b⟩ = true) (m up : Nat) (hm : m ≤ R) (hup : R - m = up) (hm1 : 1 ≤ m) (hn : clampI n R = -(m : Int)) :
  Calls Tryz.prog 148 #[.pointer (some ⟨G, 0, none⟩), .int .i64 n, .agg #[.int .u8 f, .int .u8 y, .int .u8 b]] w (Scrolled R C (scrollG g C n ⟨f, y, b⟩) w G L M) := by
 obtain ⟨W0, hW0⟩ := exq (w.alloc (.cells #[.int .u8 f, .int .u8 y, .int .u8 b] 65))
 have HB0 : Hid (Below w.heap.size w W0) := by unfold Hid; rw [← hW0]; exact (Below.refl _ _).alloc (Nat.le_refl _) _
 have HS0 : Hid (Spans W0) := by unfold Hid; rw [← hW0]; exact hS.alloc _
 have HP0 : Hid (Whole W0 w.heap.size 65 [.int .u8 f, .int .u8 y, .int .u8 b]) := by unfold Hid; rw [← hW0]; exact Whole.new _ _ _
 have HEnd : Hid (rotG g R C up 0 m ⟨f, y, b⟩ = scrollG g C n ⟨f, y, b⟩) := by unfold Hid; rw [← hup]; exact rotG_down g R C m n ⟨f, y, b⟩ hp h.glen hn hm
 have HLs : Hid (∀ i, i < R → (lAt g.ls i).length = C) := by unfold Hid; obtain ⟨_, _, _, _, ha⟩ := h; exact fun i hi => ha.lenAt hi
 have HltG := hide h.ltG; have HltL := hide h.ltL; have HltM := hide h.ltM; have HPR := hide hp; have HW0 := hide hW0
 have HG0 := hide (h.later HB0.out)
 have hcl : min (max n (-(R : Int))) (R : Int) = -(m : Int) := hn
 have hi1 : (R : Int) + -(m : Int) = (up : Int) := by omega
 have hi2 : -(m : Int) < 0 := by omega
 have hi3 : up ≤ R := by omega
 have hup0 := hide hup
 obtain ⟨a0, a1, a2, lP⟩ := cells3 HP0.out
 clear hW0 h hn hp hS hup
 go_enter Tryz.func148, Tryz.ntmps148
 go_wp2_with fail
 rw [HW0.out]
 refine (right_any f y b W0).mono ?_
 rintro e W1 ⟨rfl, hb⟩
 rw [HPR.out]
 have HB := hide (HB0.out.trans (hb.mono HB0.out.size))
 have HS := hide (HS0.out.below hb)
 have HP := hide (HP0.out.later hb)
 have HG := hide (HG0.out.later hb)
 clear a0 a1 a2 lP hb HB0 HS0 HP0 HG0
 obtain ⟨cap, ps, room, more, ha⟩ := HG.out
 have HA := hide ha
 obtain ⟨c0, c1, c2, lG, lL, lM⟩ := ha.three
 have hcap := ha.cap1
 have hcap2 := ha.cap2
 unfold maxLen at hcap2
 obtain ⟨A1, hA1⟩ : ∃ A1 : Addr, (if cap = up then (⟨L, 0, none⟩ : Addr) else ⟨L, up, none⟩) = A1 := ⟨_, rfl⟩
 have HV1 := hide (ha.vals (up := up) (by omega) hA1.symm).1
 have HV2 := hide (ha.vals (up := up) (by omega) hA1.symm).2
 have HA1 := hide hA1; clear hA1 ha; go_wp2
 refine rgL (fun w' => Below W1.heap.size W1 w') 17 [(0, 0), (0, 1), (0, 5), (0, 7), (0, 11), (0, 2), (0, 3), (0, 8), (0, 9), (0, 4), (0, 6), (1, 10), (1, 12), (1, 13), (1, 14), (1, 15), (1, 16), (3, 17)] bd1 ?_
 iterate 9 refine stL (h := ?_)
 refine stL (hy := fun w hS => by obtain ⟨b0, b1, b2, -⟩ := cells3 (HA.out.top.later hS); go_simp <;> with_reducible rfl) (h := ?_)
 refine chainL_take (v := .slice (some A1) (R - up) (cap - up)) (by simp only [List.getElem?_toArray, List.getElem?_cons_zero, List.getElem?_cons_succ]; rfl) (by rfl) (fun w hS => ?_) ?_
 ·rw [← HA1.out]
  go_simp
  split <;> rfl
 simp only [Act.put, List.setIfInBounds_toArray, List.set_cons_zero, List.set_cons_succ]
 refine alL fun K hK => ?_
 go_wp2
 refine hK.out _ _ bd1 ?_
 clear hK K
 refine alL fun K hK => ?_
 go_wp2
 refine hK.out _ _ bd1 ?_
 clear hK K
 refine alL fun K hK => ?_
 go_wp2
 refine hK.out _ _ (((Below.refl _ _).alloc (Nat.le_refl _) _).drewN 1) ?_
 clear hK K
 refine alL fun K hK => ?_
 go_wp2_with fail
 refine (concat_any W1.heap.size A1 ⟨L, 0, none⟩ (R - up) up (cap - up) cap (((rowsV M C ps R).drop up)) ((rowsV M C ps R).take up) _ ?_ (HV1.out.below ?_) (HV2.out.below ?_) (by rw [List.length_drop, rowsV_len]) (by rw [List.length_take, rowsV_len]; omega) (by omega) (by omega)).mono ?_
 ·exact (Whole.new W1 109 [.slice (some A1) (R - up) (cap - up), .slice (some ⟨L, 0, none⟩) up cap]).drewN 1
 ·exact ((Below.refl _ _).alloc (Nat.le_refl _) _).drewN 1
 ·exact ((Below.refl _ _).alloc (Nat.le_refl _) _).drewN 1
 rintro e k1 ⟨v, rfl, hown⟩
 obtain ⟨L2, cap2, more2, rfl, hL2, hw2, hc2, hm2⟩ := hown.form (by intro q; have := congrArg List.length q; rw [List.length_append, List.length_drop, List.length_take, rowsV_len] at this; simp at this; omega)
 have Bk1 : Below W1.heap.size W1 k1 := (((Below.refl W1.heap.size W1).alloc (Nat.le_refl _) _).drewN 1).trans (hown.bel.mono (by simp))
 rw [show ((rowsV M C ps R).drop up ++ (rowsV M C ps R).take up).length = R by rw [List.length_append, List.length_drop, List.length_take, rowsV_len]; omega] at hc2 ⊢
 have HW2 := hide hw2
 have HL2 : Hid (W1.heap.size ≤ L2) := by unfold Hid; have : (W1.alloc (.cells #[.slice (some A1) (R - up) (cap - up), .slice (some ⟨L, 0, none⟩) up cap] 109)).heap.size ≤ L2 := hL2; simp at this; omega
 have HC2 := hide hc2; have HM2 := hide hm2; have HBk := hide Bk1
 have HAk := hide (HA.out.later Bk1)
 clear hw2 hL2 hc2 hm2 hown c0 c1 c2 lG lL lM
 obtain ⟨b0, b1, b2, lG⟩ := cells3 HAk.out.top
 have hz := HAk.out.top.frozen
 go_wp2
 refine hK.out _ _ (Bk1) ?_
 clear hK K
 refine alL fun K hK => ?_
 go_wp2
 refine hK.out _ _ (Bk1) ?_
 clear hK K
 refine alL fun K hK => ?_
 go_wp2
 refine hK.out _ _ (Bk1) ?_
 clear hK K
 refine laL fun K hK => ?_
 go_wp2
 refine hK.out _ _ ?_
 clear hK K
 refine chainL_nil ?_
 have HA2 := hide (HAk.out.rot (up := up) (come := 0) (p := ⟨f, y, b⟩) (by omega) HW2.out HC2.out HM2.out)
 obtain ⟨W2, hW2⟩ := exq (k1.setCell ⟨G, 2, none⟩ (.slice (some ⟨L2, 0, none⟩) R cap2))
 rw [hW2] at HA2 ⊢
 have HT2 : Hid (Trn G L M w W2) := by unfold Hid; rw [← hW2]; exact Trn.ofB (HB.out.trans (HBk.out.mono HB.out.size)) (Trn.of_onlyG (Only.put _ _))
 have HP2 : Hid (Whole W2 w.heap.size 65 [.int .u8 f, .int .u8 y, .int .u8 b]) := by unfold Hid; rw [← hW2]; exact (HP.out.later HBk.out).far (Only.put _ _) ((HP.out.later HBk.out).ne HAk.out.top (by decide))
 have HS2 : Hid (Spans W2) := by unfold Hid; rw [← hW2]; exact (HS.out.below HBk.out).turn (.of HAk.out) hR (Trn.of_onlyG (Only.put _ _))
 have HL2n : Hid (w.heap.size ≤ L2) := by unfold Hid; exact Nat.le_trans HB.out.size HL2.out
 clear hW2 b0 b1 b2 lG hz Bk1; go_wp2
 go_loopw [9] (fun i wr => ∃ (j k : Nat), j = 0 + k ∧ k ≤ m ∧ i = .int .i64 j ∧ Grd wr G L2 M R C (rotG g R C up 0 k ⟨f, y, b⟩) ∧ Trn G L M w wr ∧ Whole wr w.heap.size 65 [.int .u8 f, .int .u8 y, .int .u8 b] ∧ Spans wr) (fun i _ => m - (intOf i).toNat)
 case atStart => exact ⟨0, 0, rfl, Nat.zero_le _, rfl, .of HA2.out, HT2.out, HP2.out, HS2.out⟩
 case round =>
  obtain ⟨j, k, hj, hk, rfl, hg, ht, hp, hs⟩ := hrel
  have HJ := hide hj; have HGk := hide hg; have HTk := hide ht; have HPk := hide hp; have HSk := hide hs; have HKm := hide hk; clear hg ht hp hs
  by_cases hlt : j < m
  ·have HJR : Hid (j < R) := by unfold Hid; omega
   have hjm : j ≤ 512 := by omega
   have HKlt : Hid (k < m) := by unfold Hid; omega
   clear hj hk; go_wp2
   refine rgL (fun w' => Below wr.heap.size wr w') 5 [(0, 0), (0, 1), (0, 2), (0, 4), (1, 3), (3, 5)] bd1 ?_
   iterate 3 refine stL (h := ?_)
   refine stL (hy := fun w hS => by obtain ⟨a0, a1, a2, -⟩ := cells3 (HPk.out.later hS); go_simp <;> with_reducible rfl) (h := ?_)
   refine alL fun K hK => ?_
   go_wp2_with fail
   refine (cols_any (HGk.out.later bd1) hR).mono ?_
   rintro e k1 ⟨rfl, rfl⟩
   go_wp2
   refine hK.out _ _ bd1 ?_
   clear hK K
   refine laL fun K hK => ?_
   go_wp2_with fail
   refine (gerase_any (HGk.out.later bd1) hC2 HSk.out.drew (j : Int) 0 C f y b).mono ?_
   rintro e k1 ⟨rfl, hg, ht⟩
   have HG1 := hide hg; have HT0 := hide ht; clear hg ht; go_wp2
   refine hK.out _ _ ?_
   clear hK K
   refine chainL_nil ?_
   have HGn : Hid (Grd k1 G L2 M R C (rotG g R C up 0 (k + 1) ⟨f, y, b⟩)) := by unfold Hid; rw [← rotG_next g R C up 0 k j ⟨f, y, b⟩ HJ.out HPR.out HJR.out HLs.out (by omega)]; exact HG1.out
   have HTn : Hid (Trn G L M w k1) := by unfold Hid; exact HTk.out.trans (Trn.ofB ((Below.refl wr.heap.size wr).drewN 1) HT0.out) (.inr HL2n.out)
   have HSn : Hid (Spans k1) := by unfold Hid; exact HSk.out.drew.turn (HGk.out.later bd1) hR HT0.out
   have HPn : Hid (Whole k1 w.heap.size 65 [.int .u8 f, .int .u8 y, .int .u8 b]) := by
    unfold Hid
    obtain ⟨_, _, _, _, hat⟩ := HGk.out
    exact HT0.out.whole HPk.out.drew (HPk.out.ne hat.top (by decide)) (HPk.out.ne hat.lines (by decide)) (HPk.out.ne hat.piece (by decide))
   go_wp2
   go_roundw
   case rel => exact ⟨j + 1, k + 1, by rw [HJ.out]; omega, HKlt.out, by go_num, HGn.out, HTn.out, HPn.out, HSn.out⟩
   case measure => simp [intOf]; omega
  ·obtain rfl : k = m := by omega
   clear hj hk; go_wp2
   exact bodyPost_end (v := .tuple #[]) (by simp [results, Tryz.results148]) rfl ⟨rfl, L2, by rw [← HEnd.out]; exact HGk.out, HTk.out, .inr HL2n.out⟩
end
end
end Go.Proofs.YtkijclgbpbhglaaGreatDoor
