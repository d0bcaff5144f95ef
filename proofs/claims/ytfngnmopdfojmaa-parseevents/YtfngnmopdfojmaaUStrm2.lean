/-
  Contracts of a stream's methods, on: Feed, Held, Flush; a nil stream's.
-/
import Derived.Test.YtfngnmopdfojmaaUStrm
import Derived.Lib.SliceRun
namespace Go.Proofs.Ytfngnmopdfojmaa
set_option maxRecDepth 100000
open Go.ChangeShapes Go.WideShapes Go.ChangeAt Go.RowKit
set_option linter.unusedVariables false
variable {T : TypeId} {R : List Value}

theorem strm_at {w : World} {g : Nat} {x : List Int} (h : Strm T R w g x) (h3 : x.length ≤ 3) : ∃ u, w.cell? ⟨g, x.length, none⟩ = some (.int .u8 u) := by
  obtain ⟨b, hb, hw, _, _⟩ := h
  refine ⟨b[x.length]'(by omega), ?_⟩
  rw [hw.cell, List.getElem?_append_left (by simp; omega)]
  simp [List.getElem?_eq_getElem (show x.length < b.length by omega)]
theorem strm_push {w : World} {g : Nat} {x : List Int} (h : Strm T R w g x) (h3 : x.length ≤ 3) (c : Int) :
    (w.setCell ⟨g, x.length, none⟩ (.int .u8 c)).cell? ⟨g, 4, none⟩ = some (.int .i64 x.length) ∧ (∀ i, (w.setCell ⟨g, x.length, none⟩ (.int .u8 c)).frozen? ⟨g, i, none⟩ = false) ∧
      Strm T R ((w.setCell ⟨g, x.length, none⟩ (.int .u8 c)).setCell ⟨g, 4, none⟩ (.int .i64 ((x.length : Int) + 1))) g (x ++ [c]) := by
  obtain ⟨b, hb, hw, ht, _⟩ := h
  have h1 := hw.put x.length (.int .u8 c)
  rw [List.set_append_left _ _ (by simp; omega), ← List.map_set] at h1
  refine ⟨h1.cell4 (by simp [hb]), fun i => h1.frozen i, ?_⟩
  refine ⟨b.set x.length c, by simp [hb], ?_, ?_, by simp; omega⟩
  · have h2 := h1.put 4 (.int .i64 ((x.length : Int) + 1))
    rw [List.set_append_right _ _ (by simp [hb])] at h2
    simp [hb] at h2
    simpa using h2
  · rw [List.length_append]
    simp only [List.length_cons, List.length_nil, Nat.zero_add]
    rw [List.take_succ_eq_append_getElem (by simp; omega)]
    have e : (b.set x.length c).take x.length = x := by
      rw [List.take_set_of_le (Nat.le_refl _)]; exact ht
    rw [e]
    simp

set_option maxHeartbeats 400000 in
theorem clone_any (A : Option Addr) (n c : Nat) (bs : List Int) (w : World) (h : Ints .u8 w A bs) (hn : bs.length = n) (hlen : n ≤ 1000000) (hA : A ≠ none := by simp) :
    Calls Try.prog 48 #[.slice A n c] w (Made 5 .u8 w bs) := by
  have HN := hide hn
  clear hn
  cases A with
  | none => exact absurd rfl hA
  | some ad =>
    obtain rfl : bs.length = n := HN.out
    clear HN hA
    have e0 := fun W => Lib.run_eql_slice_nil (P := Try.prog) W 35 5 (some ad) bs.length c 0 0 Try.underlying35
    have ho := Own.empty w 5 .u8
    have hi := h.alloc (.cells #[] 5)
    clear h
    go_enter Try.func48, Try.ntmps48
    go_wp2_with (at_builtin; refine wpList_cat elemBytes rfl _ _ rfl rfl rfl ho hi rfl (fun h => by cases h) (by simpa using hlen) (by omega) ?_; intro v' w2 hown2)
    go_ret
    exact ⟨_, rfl, hown2⟩

set_option maxHeartbeats 1000000 in
theorem held_any (g : Nat) (h : List Int) (w : World) (hs : Strm T R w g h) : Calls Try.prog 43 #[.pointer (some ⟨g, 0, none⟩)] w (Made 5 .u8 w h) := by
  have hxn := hs.len
  have hm4 := hs.four
  have hlt := hs.lt
  obtain ⟨m, hm⟩ : ∃ m, h.length = m := ⟨_, rfl⟩
  rw [hm] at hxn hm4
  have HM := hide hm
  clear hm
  have m0 : (0 : Int) ≤ (m : Int) := by omega
  have m4 : (m : Int) ≤ 4 := by omega
  have hxd : w.drew.cell? ⟨g, 4, none⟩ = some (.int .i64 m) := hxn
  have hxi : Ints .u8 w.drew (some ⟨g, 0, none⟩) h := (hs.drewN 1).ints
  have hb0 : Below w.heap.size w w.drew := (Below.refl _ _).drewN 1
  go_enter Try.func43, Try.ntmps43
  go_wp2
  refine wp_region_chain [(true, [0]), (true, [3]), (true, [1]), (true, [2]), (false, [4, 5, 6, 7, 8, 9])] (by kernel_rfl) (by kernel_rfl) (by kernel_rfl) (fun _ _ _ _ _ h => h) ?_
  generalize w.drew = w2 at *
  refine chain_take (v := ?_) (by simp only [pickOps, List.getElem?_toArray, List.getElem?_cons_zero]; rfl) (Or.inl ⟨rfl, fun w => ?_⟩) ?_
  rotate_left
  · go_simp <;> with_reducible rfl
  simp only [Act.put, List.setIfInBounds_toArray, List.set_cons_zero, List.set_cons_succ]
  refine chain_take (v := ?_) (by simp only [pickOps, List.getElem?_toArray, List.getElem?_cons_zero, List.getElem?_cons_succ]; rfl) (Or.inl ⟨rfl, fun w => ?_⟩) ?_
  rotate_left
  · go_simp <;> with_reducible rfl
  simp only [Act.put, List.setIfInBounds_toArray, List.set_cons_zero, List.set_cons_succ]
  refine chain_take (v := ?_) (by simp only [pickOps, List.getElem?_toArray, List.getElem?_cons_zero, List.getElem?_cons_succ]; rfl) (Or.inl ⟨rfl, fun w => ?_⟩) ?_
  rotate_left
  · go_simp <;> with_reducible rfl
  simp only [Act.put, List.setIfInBounds_toArray, List.set_cons_zero, List.set_cons_succ]
  refine chain_take (v := ?_) (by simp only [pickOps, List.getElem?_toArray, List.getElem?_cons_zero, List.getElem?_cons_succ]; rfl) (Or.inl ⟨rfl, fun w => ?_⟩) ?_
  rotate_left
  · go_simp <;> with_reducible rfl
  simp only [Act.put, List.setIfInBounds_toArray, List.set_cons_zero, List.set_cons_succ]
  refine chain_alone (by simp only [pickOps, List.getElem?_toArray, List.getElem?_cons_zero, List.getElem?_cons_succ]; rfl) ?_
  intro K hK
  go_wp2_with fail
  refine (clone_any _ m 4 h w2 hxi HM.out (by omega)).mono ?_
  rintro e w1 ⟨v, rfl, hv⟩
  go_wp2
  refine hK.out _ _ ?_
  clear hK K
  refine chain_nil ?_
  go_wp2
  go_ret
  have hb1 := hb0.trans (hv.bel.mono hb0.size)
  exact ⟨_, rfl, ⟨(show _ from ⟨hv.own.1, by
    rcases hv.own.2 with h0 | ⟨g', cap, cur, hv', hB, hh⟩
    · exact .inl h0
    · exact .inr ⟨g', cap, cur, hv', Nat.le_trans hb0.size hB, hh⟩⟩), hb1, hb1.size⟩⟩

set_option maxHeartbeats 400000 in
theorem heldNil_any (w : World) : Calls Try.prog 43 #[.pointer none] w fun e w' => e = .returned (.slice none 0 0) ∧ w = w' := by
  go_enter Try.func43, Try.ntmps43
  go_wp2
  go_ret
  exact ⟨rfl, rfl⟩
set_option maxHeartbeats 400000 in
theorem flushNil_any (w : World) : Calls Try.prog 38 #[.pointer none] w fun e w' => e = .returned (.slice none 0 0) ∧ w = w' := by
  go_enter Try.func38, Try.ntmps38
  go_wp2
  go_ret
  exact ⟨rfl, rfl⟩
set_option maxHeartbeats 400000 in
theorem feedNil_any (v : Value) (w : World) : Calls Try.prog 39 #[.pointer none, v] w fun e w' => e = .returned (.slice none 0 0) ∧ w = w' := by
  go_enter Try.func39, Try.ntmps39
  go_wp2
  go_ret
  exact ⟨rfl, rfl⟩

def flushed (h : List Int) : List Int := if h = [] then [] else [65533]

set_option maxHeartbeats 400000 in
theorem flush_any (g : Nat) (h : List Int) (w : World) (hs : Strm T R w g h) :
    Calls Try.prog 38 #[.pointer (some ⟨g, 0, none⟩)] w fun e w' => ∃ v, e = .returned v ∧ Own 21 .i32 w.heap.size w' w' v (flushed h) ∧ Strm T R w' g [] ∧ Fr w.heap.size g w w' := by
  have hxn := hs.len
  have hlt := hs.lt
  have hz := hs.frozen 4
  by_cases h0 : h = []
  · subst h0
    simp only [List.length_nil] at hxn
    have hxn' : w.cell? ⟨g, 4, none⟩ = some (.int .i64 0) := hxn
    go_enter Try.func38, Try.ntmps38
    go_wp2
    go_ret
    exact ⟨_, rfl, Own.start (Nat.le_refl _), hs, Fr.refl⟩
  · have hp : 0 < h.length := List.length_pos_iff.2 h0
    have hne : ((h.length : Int) == 0) = false := by simp; exact h0
    have HF : Hid (flushed h = [65533]) := by unfold Hid flushed; rw [if_neg h0]
    obtain ⟨b, hb, hw, ht, h4⟩ := hs
    have hs5 : Strm T R (w.setCell ⟨g, 4, none⟩ (.int .i64 0)) g [] := strm_put0 hw hb rfl
    have hf5 : Fr w.heap.size g w (w.setCell ⟨g, 4, none⟩ (.int .i64 0)) := Fr.put 4 _
    have hsz : (w.setCell ⟨g, 4, none⟩ (.int .i64 0)).heap.size = w.heap.size := by simp [World.setCell]
    have HSZ := hide hsz
    clear hsz hw hb ht h0
    obtain ⟨n, hn⟩ : ∃ n, h.length = n := ⟨_, rfl⟩
    rw [hn] at hxn hne
    clear hn hp h4
    go_enter Try.func38, Try.ntmps38
    go_wp2
    go_ret
    have hl := Own.lit (w.setCell ⟨g, 4, none⟩ (.int .i64 0)) 21 .i32 [65533] 1 rfl (by omega)
    have hbl := hl.bel
    rw [HSZ.out] at hl hbl
    refine ⟨_, rfl, ?_, hs5.below hbl hlt, hf5.trans (Fr.of_below hbl)⟩
    rw [HF.out]
    exact hl.now

set_option maxRecDepth 100000 in
set_option maxHeartbeats 2000000 in
theorem feed_any (g : Nat) (h bs : List Int) (A : Option Addr) (n c : Nat) (w : World) (hs : Strm T R w g h) (hh : (first h).2 = 0) (hby : Byte h) (hb : Byte bs) (hi : Ints .u8 w A bs) (hn : bs.length = n) (hl : n ≤ 100) (hA : ∀ ad, A = some ad → 0 < n → ad.block ≠ g) :
    Calls Try.prog 39 #[.pointer (some ⟨g, 0, none⟩), .slice A n c] w fun e w' => ∃ v, e = .returned v ∧ Own 21 .i32 w.heap.size w' w' v (cut (h ++ bs)).1 ∧ Strm T R w' g (cut (h ++ bs)).2 ∧ Fr w.heap.size g w w' := by
  have hlt0 := hs.lt
  have h04 := hs.four
  have HN := hide hn
  have HA := hide hA
  have HC0 : Hid (cut h = ([], h)) := cut_held hh
  clear hn hA hh
  go_enter Try.func39, Try.ntmps39
  go_wp2
  go_loopw [5, 7, 12] (fun l _ i wr => ∃ k : Nat, k ≤ n ∧ i = .int .i64 k ∧ Own 21 .i32 w.heap.size wr wr l (cut (h ++ bs.take k)).1 ∧ Strm T R wr g (cut (h ++ bs.take k)).2 ∧ Fr w.heap.size g w wr) (fun _ _ i _ => n - (intOf i).toNat)
  case atStart =>
    refine ⟨0, Nat.zero_le _, rfl, ?_, ?_, Fr.refl⟩
    · rw [List.take_zero, List.append_nil, HC0.out]; exact Own.start (Nat.le_refl _)
    · rw [List.take_zero, List.append_nil, HC0.out]; exact hs
  case round =>
    obtain ⟨k, hk, rfl, hown, hst, hfr⟩ := hrel
    by_cases hlt : k < n
    · obtain ⟨b, off, rfl, hc, hb0⟩ := hi.at (i := k) (by rw [HN.out]; exact hlt)
      have hbg := HA.out _ rfl (by omega)
      obtain ⟨cc, hcc, hcc2⟩ := getD_byte bs hb k (by rw [HN.out]; exact hlt)
      have hcw : wr.cell? ⟨b, off + k, none⟩ = some (.int .u8 cc) := by
        have e : wr.cell? ⟨b, off + k, none⟩ = w.cell? ⟨b, off + k, none⟩ := by simp only [World.cell?, hfr.block b hb0 hbg]
        rw [e, hc, hcc]
      have HTK := hide (take_snoc bs k cc (by rw [HN.out]; exact hlt) hcc)
      clear hcc hc
      have hbt : Byte (h ++ bs.take k) := hby.append (hb.take k)
      have hx3 := first_held_len _ (cut_rest (h ++ bs.take k))
      have hxb := cut_byte _ hbt
      have hal := cut_len (h ++ bs.take k)
      have HCA := hide (cut_append' (h ++ bs.take k) [(cc : Int)])
      have hlk : (h ++ bs.take k).length ≤ 4 + k := by rw [List.length_append, List.length_take]; omega
      obtain ⟨ac, x, hcx⟩ : ∃ ac x, cut (h ++ bs.take k) = (ac, x) := ⟨_, _, rfl⟩
      rw [hcx] at hown hst hx3 hxb hal
      have HCX := hide hcx
      clear hcx
      simp only at hown hst hx3 hxb hal
      have hxl := hst.len
      have hz := hst.frozen x.length
      obtain ⟨u, hu⟩ := strm_at hst hx3
      obtain ⟨p1, p2, p3⟩ := strm_push (hst.drewN 1) hx3 (cc : Int)
      have p2' := p2 4
      have hf1 : Fr w.heap.size g w ((wr.drewN 1).setCell ⟨g, x.length, none⟩ (.int .u8 (cc : Int))) := (hfr.drewN 1).trans (Fr.put _ _)
      have hgt : ∀ i, w.heap.size ≤ i → ((wr.drewN 1).setCell ⟨g, x.length, none⟩ (.int .u8 (cc : Int))).heap[i]? = wr.heap[i]? := fun i hi => Below.heap_setCell _ _ _ _ (by simp; omega)
      have ho1 := hown.keep (fun i hi _ => hgt i hi) (by simp [World.setCell, World.drewN])
      obtain ⟨m, hm⟩ : ∃ m, x.length = m := ⟨_, rfl⟩
      rw [hm] at hx3 hxl hz hu p1 p2' p3 hf1 ho1
      have HM := hide hm
      clear hm p2 hgt
      have hxl2 : wr.drew.cell? ⟨g, 4, none⟩ = some (.int .i64 m) := hxl
      have hz2 : wr.drew.frozen? ⟨g, m, none⟩ = false := hz
      have hu2 : wr.drew.cell? ⟨g, m, none⟩ = some (.int .u8 u) := hu
      have m0 : (0 : Int) ≤ (m : Int) := by omega
      have m4 : (m : Int) < 4 := by omega
      replace p1 : (wr.drew.setCell ⟨g, m, none⟩ (.int .u8 (cc : Int))).cell? ⟨g, 4, none⟩ = some (.int .i64 m) := p1
      replace p2' : (wr.drew.setCell ⟨g, m, none⟩ (.int .u8 (cc : Int))).frozen? ⟨g, 4, none⟩ = false := p2'
      replace p3 : Strm T R ((wr.drew.setCell ⟨g, m, none⟩ (.int .u8 (cc : Int))).setCell ⟨g, 4, none⟩ (.int .i64 ((m : Int) + 1))) g (x ++ [(cc : Int)]) := p3
      replace hf1 : Fr w.heap.size g w (wr.drew.setCell ⟨g, m, none⟩ (.int .u8 (cc : Int))) := hf1
      replace ho1 : Own 21 .i32 w.heap.size (wr.drew.setCell ⟨g, m, none⟩ (.int .u8 (cc : Int))) (wr.drew.setCell ⟨g, m, none⟩ (.int .u8 (cc : Int))) _ ac := ho1
      go_wp2
      refine wp_region_chain [(true, [0]), (true, [1]), (true, [5]), (true, [2]), (true, [3]), (true, [6]), (true, [7]), (false, [4, 8, 9])] (by kernel_rfl) (by kernel_rfl) (by kernel_rfl) (fun _ _ _ _ _ h => h) ?_
      generalize wr.drew = w2 at *
      refine chain_take (v := ?_) (by simp only [pickOps, List.getElem?_toArray, List.getElem?_cons_zero]; rfl) (Or.inl ⟨rfl, fun w => ?_⟩) ?_
      rotate_left
      · go_simp <;> with_reducible rfl
      simp only [Act.put, List.setIfInBounds_toArray, List.set_cons_zero, List.set_cons_succ]
      refine chain_take (v := ?_) (by simp only [pickOps, List.getElem?_toArray, List.getElem?_cons_zero, List.getElem?_cons_succ]; rfl) (Or.inl ⟨rfl, fun w => ?_⟩) ?_
      rotate_left
      · go_simp <;> with_reducible rfl
      simp only [Act.put, List.setIfInBounds_toArray, List.set_cons_zero, List.set_cons_succ]
      refine chain_take (v := ?_) (by simp only [pickOps, List.getElem?_toArray, List.getElem?_cons_zero, List.getElem?_cons_succ]; rfl) (Or.inl ⟨rfl, fun w => ?_⟩) ?_
      rotate_left
      · go_simp <;> with_reducible rfl
      simp only [Act.put, List.setIfInBounds_toArray, List.set_cons_zero, List.set_cons_succ]
      refine chain_take (v := ?_) (by simp only [pickOps, List.getElem?_toArray, List.getElem?_cons_zero, List.getElem?_cons_succ]; rfl) (Or.inl ⟨rfl, fun w => ?_⟩) ?_
      rotate_left
      · go_simp <;> with_reducible rfl
      simp only [Act.put, List.setIfInBounds_toArray, List.set_cons_zero, List.set_cons_succ]
      refine chain_take (v := ?_) (by simp only [pickOps, List.getElem?_toArray, List.getElem?_cons_zero, List.getElem?_cons_succ]; rfl) (Or.inl ⟨rfl, fun w => ?_⟩) ?_
      rotate_left
      · go_simp <;> with_reducible rfl
      simp only [Act.put, List.setIfInBounds_toArray, List.set_cons_zero, List.set_cons_succ]
      refine chain_take (v := ?_) (by simp only [pickOps, List.getElem?_toArray, List.getElem?_cons_zero, List.getElem?_cons_succ]; rfl) (Or.inl ⟨rfl, fun w => ?_⟩) ?_
      rotate_left
      · go_simp <;> with_reducible rfl
      simp only [Act.put, List.setIfInBounds_toArray, List.set_cons_zero, List.set_cons_succ]
      refine chain_take (v := ?_) (by simp only [pickOps, List.getElem?_toArray, List.getElem?_cons_zero, List.getElem?_cons_succ]; rfl) (Or.inl ⟨rfl, fun w => ?_⟩) ?_
      rotate_left
      · go_simp <;> with_reducible rfl
      simp only [Act.put, List.setIfInBounds_toArray, List.set_cons_zero, List.set_cons_succ]
      refine chain_alone (by simp only [pickOps, List.getElem?_toArray, List.getElem?_cons_zero, List.getElem?_cons_succ]; rfl) ?_
      intro K hK
      go_wp2
      refine hK.out _ _ ?_
      clear hK K
      refine chain_nil ?_
      generalize w2.setCell ⟨g, m, none⟩ (.int .u8 (cc : Int)) = w3 at *
      have ho2 := ho1.keep (w1 := w3.setCell ⟨g, 4, none⟩ (.int .i64 ((m : Int) + 1))) (fun i hi _ => Below.heap_setCell _ _ _ _ (by simp; omega)) (by simp [World.setCell])
      have hf2 := hf1.trans (Fr.put (B := w.heap.size) (g := g) (w := w3) 4 (.int .i64 ((m : Int) + 1)))
      go_wp2_with fail
      refine (tell_any g w.heap.size (x ++ [(cc : Int)]) ac _ _ p3 hlt0 ho2 (hxb.append (by intro y hy; simp at hy; omega)) (by omega)).mono ?_
      rintro e w4 ⟨v4, rfl, ho4, hs4, hf4⟩
      go_wp2
      go_roundw
      case rel =>
        have e := HCA.out
        rw [HCX.out] at e
        simp only at e
        refine ⟨k + 1, by omega, by go_num, ?_, ?_, hf2.trans hf4⟩
        · rw [HTK.out, ← List.append_assoc, e]; exact ho4
        · rw [HTK.out, ← List.append_assoc, e]; exact hs4
      case measure => simp [intOf]; omega
    · have HTK : Hid (bs.take k = bs) := by unfold Hid; exact List.take_of_length_le (by rw [HN.out]; omega)
      rw [HTK.out] at hown hst
      go_wp2
      go_ret
      exact ⟨_, rfl, hown, hst, hfr⟩
end Go.Proofs.Ytfngnmopdfojmaa
