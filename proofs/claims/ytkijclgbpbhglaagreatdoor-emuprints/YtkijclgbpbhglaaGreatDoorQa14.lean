/-
  Contracts of a stream's methods, on: Feed, Held, Flush; a nil stream's.
  Events and parsers in memory: rows of events that are read, that a call makes and appends to; the program's parser (a stream, nine numbers, a state) and the document's.
-/
import Derived.Test.YtkijclgbpbhglaaGreatDoorQa13
import Derived.Lib.SliceRun
import Derived.Test.YtkijclgbpbhglaaGreatDoorQa8
import Derived.Test.YtkijclgbpbhglaaGreatDoorQa7
import Derived.OwnWalk
import Derived.Laws.OwnMore
namespace Go.Proofs.YtkijclgbpbhglaaGreatDoor
set_option maxRecDepth 100000
open Go.ChangeShapes Go.WideShapes Go.ChangeAt Go.RowKit
set_option linter.unusedVariables false
variable {T : TypeId} {R : List Value}

theorem strm_at {w : World} {g : Nat} {x : List Int} (h : Strm T R w g x) (h3 : x.length ≤ 3) : ∃ u, w.cell? ⟨g, x.length, none⟩ = some (.int .u8 u) := by
  obtain ⟨b, hb, hw, _, _⟩ := h
  refine ⟨b[x.length]'(by omega), ?_⟩
  rw [hw.cell, List.getElem?_append_left (by simp; omega)]
  simp [List.getElem?_eq_getElem (show x.length < b.length by omega)]
theorem strm_push {w : World} {g : Nat} {x : List Int} (h : Strm T R w g x) (h3 : x.length ≤ 3) (c : Int) :
    (w.setCell ⟨g, x.length, none⟩ (.int .u8 c)).cell? ⟨g, 4, none⟩ = some (.int .i64 x.length) ∧ (∀ i, (w.setCell ⟨g, x.length, none⟩ (.int .u8 c)).frozen? ⟨g, i, none⟩ = false) ∧
      Strm T R ((w.setCell ⟨g, x.length, none⟩ (.int .u8 c)).setCell ⟨g, 4, none⟩ (.int .i64 ((x.length : Int) + 1))) g (x ++ [c]) := by
  obtain ⟨b, hb, hw, ht, _⟩ := h
  have h1 := hw.put x.length (.int .u8 c)
  rw [List.set_append_left _ _ (by simp; omega), ← List.map_set] at h1
  refine ⟨h1.cell4 (by simp [hb]), fun i => h1.frozen i, ?_⟩
  refine ⟨b.set x.length c, by simp [hb], ?_, ?_, by simp; omega⟩
  · have h2 := h1.put 4 (.int .i64 ((x.length : Int) + 1))
    rw [List.set_append_right _ _ (by simp [hb])] at h2
    simp [hb] at h2
    simpa using h2
  · rw [List.length_append]
    simp only [List.length_cons, List.length_nil, Nat.zero_add]
    rw [List.take_succ_eq_append_getElem (by simp; omega)]
    have e : (b.set x.length c).take x.length = x := by
      rw [List.take_set_of_le (Nat.le_refl _)]; exact ht
    rw [e]
    simp

set_option maxHeartbeats 400000 in
theorem uclone_any (A : Option Addr) (n c : Nat) (bs : List Int) (w : World) (h : Ints .u8 w A bs) (hn : bs.length = n) (hlen : n ≤ 1000000) (hA : A ≠ none := by simp) :
    Calls Tryz.prog 188 #[.slice A n c] w (Made 5 .u8 w bs) := by
  have HN := hide hn
  clear hn
  cases A with
  | none => exact absurd rfl hA
  | some ad =>
    obtain rfl : bs.length = n := HN.out
    clear HN hA
    have e0 := fun W => Lib.run_eql_slice_nil (P := Tryz.prog) W 34 5 (some ad) bs.length c 0 0 Tryz.underlying34
    have ho := Own.empty w 5 .u8
    have hi := h.alloc (.cells #[] 5)
    clear h
    go_enter Tryz.func188, Tryz.ntmps188
    go_wp2_with (at_builtin; refine wpList_cat elemBytes rfl _ _ rfl rfl rfl ho hi rfl (fun h => by cases h) (by simpa using hlen) (by omega) ?_; intro v' w2 hown2)
    go_ret
    exact ⟨_, rfl, hown2⟩

set_option maxHeartbeats 1000000 in
theorem held_any (g : Nat) (h : List Int) (w : World) (hs : Strm T R w g h) : Calls Tryz.prog 165 #[.pointer (some ⟨g, 0, none⟩)] w (Made 5 .u8 w h) := by
  have hxn := hs.len
  have hm4 := hs.four
  have hlt := hs.lt
  obtain ⟨m, hm⟩ : ∃ m, h.length = m := ⟨_, rfl⟩
  rw [hm] at hxn hm4
  have HM := hide hm
  clear hm
  have m0 : (0 : Int) ≤ (m : Int) := by omega
  have m4 : (m : Int) ≤ 4 := by omega
  have hxd : w.drew.cell? ⟨g, 4, none⟩ = some (.int .i64 m) := hxn
  have hxi : Ints .u8 w.drew (some ⟨g, 0, none⟩) h := (hs.drewN 1).ints
  have hb0 : Below w.heap.size w w.drew := (Below.refl _ _).drewN 1
  go_enter Tryz.func165, Tryz.ntmps165
  go_wp2
  refine wp_region_chain [(true, [0]), (true, [3]), (true, [1]), (true, [2]), (false, [4, 5, 6, 7, 8, 9])] (by kernel_rfl) (by kernel_rfl) (by kernel_rfl) (fun _ _ _ _ _ h => h) ?_
  generalize w.drew = w2 at *
  refine chain_take (v := ?_) (by simp only [pickOps, List.getElem?_toArray, List.getElem?_cons_zero]; rfl) (Or.inl ⟨rfl, fun w => ?_⟩) ?_
  rotate_left
  · go_simp <;> with_reducible rfl
  simp only [Act.put, List.setIfInBounds_toArray, List.set_cons_zero, List.set_cons_succ]
  refine chain_take (v := ?_) (by simp only [pickOps, List.getElem?_toArray, List.getElem?_cons_zero, List.getElem?_cons_succ]; rfl) (Or.inl ⟨rfl, fun w => ?_⟩) ?_
  rotate_left
  · go_simp <;> with_reducible rfl
  simp only [Act.put, List.setIfInBounds_toArray, List.set_cons_zero, List.set_cons_succ]
  refine chain_take (v := ?_) (by simp only [pickOps, List.getElem?_toArray, List.getElem?_cons_zero, List.getElem?_cons_succ]; rfl) (Or.inl ⟨rfl, fun w => ?_⟩) ?_
  rotate_left
  · go_simp <;> with_reducible rfl
  simp only [Act.put, List.setIfInBounds_toArray, List.set_cons_zero, List.set_cons_succ]
  refine chain_take (v := ?_) (by simp only [pickOps, List.getElem?_toArray, List.getElem?_cons_zero, List.getElem?_cons_succ]; rfl) (Or.inl ⟨rfl, fun w => ?_⟩) ?_
  rotate_left
  · go_simp <;> with_reducible rfl
  simp only [Act.put, List.setIfInBounds_toArray, List.set_cons_zero, List.set_cons_succ]
  refine chain_alone (by simp only [pickOps, List.getElem?_toArray, List.getElem?_cons_zero, List.getElem?_cons_succ]; rfl) ?_
  intro K hK
  go_wp2_with fail
  refine (uclone_any _ m 4 h w2 hxi HM.out (by omega)).mono ?_
  rintro e w1 ⟨v, rfl, hv⟩
  go_wp2
  refine hK.out _ _ ?_
  clear hK K
  refine chain_nil ?_
  go_wp2
  go_ret
  have hb1 := hb0.trans (hv.bel.mono hb0.size)
  exact ⟨_, rfl, ⟨(show _ from ⟨hv.own.1, by
    rcases hv.own.2 with h0 | ⟨g', cap, cur, hv', hB, hh⟩
    · exact .inl h0
    · exact .inr ⟨g', cap, cur, hv', Nat.le_trans hb0.size hB, hh⟩⟩), hb1, hb1.size⟩⟩

def flushed (h : List Int) : List Int := if h = [] then [] else [65533]

set_option maxHeartbeats 400000 in
theorem flush_any (g : Nat) (h : List Int) (w : World) (hs : Strm T R w g h) :
    Calls Tryz.prog 133 #[.pointer (some ⟨g, 0, none⟩)] w fun e w' => ∃ v, e = .returned v ∧ Own 21 .i32 w.heap.size w' w' v (flushed h) ∧ Strm T R w' g [] ∧ Fr w.heap.size g w w' := by
  have hxn := hs.len
  have hlt := hs.lt
  have hz := hs.frozen 4
  by_cases h0 : h = []
  · subst h0
    simp only [List.length_nil] at hxn
    have hxn' : w.cell? ⟨g, 4, none⟩ = some (.int .i64 0) := hxn
    go_enter Tryz.func133, Tryz.ntmps133
    go_wp2
    go_ret
    exact ⟨_, rfl, Own.start (Nat.le_refl _), hs, Fr.refl⟩
  · have hp : 0 < h.length := List.length_pos_iff.2 h0
    have hne : ((h.length : Int) == 0) = false := by simp; exact h0
    have HF : Hid (flushed h = [65533]) := by unfold Hid flushed; rw [if_neg h0]
    obtain ⟨b, hb, hw, ht, h4⟩ := hs
    have hs5 : Strm T R (w.setCell ⟨g, 4, none⟩ (.int .i64 0)) g [] := strm_put0 hw hb rfl
    have hf5 : Fr w.heap.size g w (w.setCell ⟨g, 4, none⟩ (.int .i64 0)) := Fr.put 4 _
    have hsz : (w.setCell ⟨g, 4, none⟩ (.int .i64 0)).heap.size = w.heap.size := by simp [World.setCell]
    have HSZ := hide hsz
    clear hsz hw hb ht h0
    obtain ⟨n, hn⟩ : ∃ n, h.length = n := ⟨_, rfl⟩
    rw [hn] at hxn hne
    clear hn hp h4
    go_enter Tryz.func133, Tryz.ntmps133
    go_wp2
    go_ret
    have hl := Own.lit (w.setCell ⟨g, 4, none⟩ (.int .i64 0)) 21 .i32 [65533] 1 rfl (by omega)
    have hbl := hl.bel
    rw [HSZ.out] at hl hbl
    refine ⟨_, rfl, ?_, hs5.below hbl hlt, hf5.trans (Fr.of_below hbl)⟩
    rw [HF.out]
    exact hl.now

set_option maxRecDepth 100000 in
set_option maxHeartbeats 2000000 in
theorem feed_any (g : Nat) (h bs : List Int) (A : Option Addr) (n c : Nat) (w : World) (hs : Strm T R w g h) (hh : (first h).2 = 0) (hby : Byte h) (hb : Byte bs) (hi : Ints .u8 w A bs) (hn : bs.length = n) (hl : n ≤ 100) (hA : ∀ ad, A = some ad → 0 < n → ad.block ≠ g) :
    Calls Tryz.prog 134 #[.pointer (some ⟨g, 0, none⟩), .slice A n c] w fun e w' => ∃ v, e = .returned v ∧ Own 21 .i32 w.heap.size w' w' v (cut (h ++ bs)).1 ∧ Strm T R w' g (cut (h ++ bs)).2 ∧ Fr w.heap.size g w w' := by
  have hlt0 := hs.lt
  have h04 := hs.four
  have HN := hide hn
  have HA := hide hA
  have HC0 : Hid (cut h = ([], h)) := cut_held hh
  clear hn hA hh
  go_enter Tryz.func134, Tryz.ntmps134
  go_wp2
  go_loopw [5, 7, 12] (fun l _ i wr => ∃ k : Nat, k ≤ n ∧ i = .int .i64 k ∧ Own 21 .i32 w.heap.size wr wr l (cut (h ++ bs.take k)).1 ∧ Strm T R wr g (cut (h ++ bs.take k)).2 ∧ Fr w.heap.size g w wr) (fun _ _ i _ => n - (intOf i).toNat)
  case atStart =>
    refine ⟨0, Nat.zero_le _, rfl, ?_, ?_, Fr.refl⟩
    · rw [List.take_zero, List.append_nil, HC0.out]; exact Own.start (Nat.le_refl _)
    · rw [List.take_zero, List.append_nil, HC0.out]; exact hs
  case round =>
    obtain ⟨k, hk, rfl, hown, hst, hfr⟩ := hrel
    by_cases hlt : k < n
    · obtain ⟨b, off, rfl, hc, hb0⟩ := hi.at (i := k) (by rw [HN.out]; exact hlt)
      have hbg := HA.out _ rfl (by omega)
      obtain ⟨cc, hcc, hcc2⟩ := getD_byte bs hb k (by rw [HN.out]; exact hlt)
      have hcw : wr.cell? ⟨b, off + k, none⟩ = some (.int .u8 cc) := by
        have e : wr.cell? ⟨b, off + k, none⟩ = w.cell? ⟨b, off + k, none⟩ := by simp only [World.cell?, hfr.block b hb0 hbg]
        rw [e, hc, hcc]
      have HTK := hide (take_snoc bs k cc (by rw [HN.out]; exact hlt) hcc)
      clear hcc hc
      have hbt : Byte (h ++ bs.take k) := hby.append (hb.take k)
      have hx3 := first_held_len _ (cut_rest (h ++ bs.take k))
      have hxb := cut_byte _ hbt
      have hal := cut_len (h ++ bs.take k)
      have HCA := hide (cut_append' (h ++ bs.take k) [(cc : Int)])
      have hlk : (h ++ bs.take k).length ≤ 4 + k := by rw [List.length_append, List.length_take]; omega
      obtain ⟨ac, x, hcx⟩ : ∃ ac x, cut (h ++ bs.take k) = (ac, x) := ⟨_, _, rfl⟩
      rw [hcx] at hown hst hx3 hxb hal
      have HCX := hide hcx
      clear hcx
      simp only at hown hst hx3 hxb hal
      have hxl := hst.len
      have hz := hst.frozen x.length
      obtain ⟨u, hu⟩ := strm_at hst hx3
      obtain ⟨p1, p2, p3⟩ := strm_push (hst.drewN 1) hx3 (cc : Int)
      have p2' := p2 4
      have hf1 : Fr w.heap.size g w ((wr.drewN 1).setCell ⟨g, x.length, none⟩ (.int .u8 (cc : Int))) := (hfr.drewN 1).trans (Fr.put _ _)
      have hgt : ∀ i, w.heap.size ≤ i → ((wr.drewN 1).setCell ⟨g, x.length, none⟩ (.int .u8 (cc : Int))).heap[i]? = wr.heap[i]? := fun i hi => Below.heap_setCell _ _ _ _ (by simp; omega)
      have ho1 := hown.keep (fun i hi _ => hgt i hi) (by simp [World.setCell, World.drewN])
      obtain ⟨m, hm⟩ : ∃ m, x.length = m := ⟨_, rfl⟩
      rw [hm] at hx3 hxl hz hu p1 p2' p3 hf1 ho1
      have HM := hide hm
      clear hm p2 hgt
      have hxl2 : wr.drew.cell? ⟨g, 4, none⟩ = some (.int .i64 m) := hxl
      have hz2 : wr.drew.frozen? ⟨g, m, none⟩ = false := hz
      have hu2 : wr.drew.cell? ⟨g, m, none⟩ = some (.int .u8 u) := hu
      have m0 : (0 : Int) ≤ (m : Int) := by omega
      have m4 : (m : Int) < 4 := by omega
      replace p1 : (wr.drew.setCell ⟨g, m, none⟩ (.int .u8 (cc : Int))).cell? ⟨g, 4, none⟩ = some (.int .i64 m) := p1
      replace p2' : (wr.drew.setCell ⟨g, m, none⟩ (.int .u8 (cc : Int))).frozen? ⟨g, 4, none⟩ = false := p2'
      replace p3 : Strm T R ((wr.drew.setCell ⟨g, m, none⟩ (.int .u8 (cc : Int))).setCell ⟨g, 4, none⟩ (.int .i64 ((m : Int) + 1))) g (x ++ [(cc : Int)]) := p3
      replace hf1 : Fr w.heap.size g w (wr.drew.setCell ⟨g, m, none⟩ (.int .u8 (cc : Int))) := hf1
      replace ho1 : Own 21 .i32 w.heap.size (wr.drew.setCell ⟨g, m, none⟩ (.int .u8 (cc : Int))) (wr.drew.setCell ⟨g, m, none⟩ (.int .u8 (cc : Int))) _ ac := ho1
      go_wp2
      refine wp_region_chain [(true, [0]), (true, [1]), (true, [5]), (true, [2]), (true, [3]), (true, [6]), (true, [7]), (false, [4, 8, 9])] (by kernel_rfl) (by kernel_rfl) (by kernel_rfl) (fun _ _ _ _ _ h => h) ?_
      generalize wr.drew = w2 at *
      refine chain_take (v := ?_) (by simp only [pickOps, List.getElem?_toArray, List.getElem?_cons_zero]; rfl) (Or.inl ⟨rfl, fun w => ?_⟩) ?_
      rotate_left
      · go_simp <;> with_reducible rfl
      simp only [Act.put, List.setIfInBounds_toArray, List.set_cons_zero, List.set_cons_succ]
      refine chain_take (v := ?_) (by simp only [pickOps, List.getElem?_toArray, List.getElem?_cons_zero, List.getElem?_cons_succ]; rfl) (Or.inl ⟨rfl, fun w => ?_⟩) ?_
      rotate_left
      · go_simp <;> with_reducible rfl
      simp only [Act.put, List.setIfInBounds_toArray, List.set_cons_zero, List.set_cons_succ]
      refine chain_take (v := ?_) (by simp only [pickOps, List.getElem?_toArray, List.getElem?_cons_zero, List.getElem?_cons_succ]; rfl) (Or.inl ⟨rfl, fun w => ?_⟩) ?_
      rotate_left
      · go_simp <;> with_reducible rfl
      simp only [Act.put, List.setIfInBounds_toArray, List.set_cons_zero, List.set_cons_succ]
      refine chain_take (v := ?_) (by simp only [pickOps, List.getElem?_toArray, List.getElem?_cons_zero, List.getElem?_cons_succ]; rfl) (Or.inl ⟨rfl, fun w => ?_⟩) ?_
      rotate_left
      · go_simp <;> with_reducible rfl
      simp only [Act.put, List.setIfInBounds_toArray, List.set_cons_zero, List.set_cons_succ]
      refine chain_take (v := ?_) (by simp only [pickOps, List.getElem?_toArray, List.getElem?_cons_zero, List.getElem?_cons_succ]; rfl) (Or.inl ⟨rfl, fun w => ?_⟩) ?_
      rotate_left
      · go_simp <;> with_reducible rfl
      simp only [Act.put, List.setIfInBounds_toArray, List.set_cons_zero, List.set_cons_succ]
      refine chain_take (v := ?_) (by simp only [pickOps, List.getElem?_toArray, List.getElem?_cons_zero, List.getElem?_cons_succ]; rfl) (Or.inl ⟨rfl, fun w => ?_⟩) ?_
      rotate_left
      · go_simp <;> with_reducible rfl
      simp only [Act.put, List.setIfInBounds_toArray, List.set_cons_zero, List.set_cons_succ]
      refine chain_take (v := ?_) (by simp only [pickOps, List.getElem?_toArray, List.getElem?_cons_zero, List.getElem?_cons_succ]; rfl) (Or.inl ⟨rfl, fun w => ?_⟩) ?_
      rotate_left
      · go_simp <;> with_reducible rfl
      simp only [Act.put, List.setIfInBounds_toArray, List.set_cons_zero, List.set_cons_succ]
      refine chain_alone (by simp only [pickOps, List.getElem?_toArray, List.getElem?_cons_zero, List.getElem?_cons_succ]; rfl) ?_
      intro K hK
      go_wp2
      refine hK.out _ _ ?_
      clear hK K
      refine chain_nil ?_
      generalize w2.setCell ⟨g, m, none⟩ (.int .u8 (cc : Int)) = w3 at *
      have ho2 := ho1.keep (w1 := w3.setCell ⟨g, 4, none⟩ (.int .i64 ((m : Int) + 1))) (fun i hi _ => Below.heap_setCell _ _ _ _ (by simp; omega)) (by simp [World.setCell])
      have hf2 := hf1.trans (Fr.put (B := w.heap.size) (g := g) (w := w3) 4 (.int .i64 ((m : Int) + 1)))
      go_wp2_with fail
      refine (tell_any g w.heap.size (x ++ [(cc : Int)]) ac _ _ p3 hlt0 ho2 (hxb.append (by intro y hy; simp at hy; omega)) (by omega)).mono ?_
      rintro e w4 ⟨v4, rfl, ho4, hs4, hf4⟩
      go_wp2
      go_roundw
      case rel =>
        have e := HCA.out
        rw [HCX.out] at e
        simp only at e
        refine ⟨k + 1, by omega, by go_num, ?_, ?_, hf2.trans hf4⟩
        · rw [HTK.out, ← List.append_assoc, e]; exact ho4
        · rw [HTK.out, ← List.append_assoc, e]; exact hs4
      case measure => simp [intOf]; omega
    · have HTK : Hid (bs.take k = bs) := by unfold Hid; exact List.take_of_length_le (by rw [HN.out]; omega)
      rw [HTK.out] at hown hst
      go_wp2
      go_ret
      exact ⟨_, rfl, hown, hst, hfr⟩
end Go.Proofs.YtkijclgbpbhglaaGreatDoor

namespace Go.Proofs.YtkijclgbpbhglaaGreatDoor
set_option maxRecDepth 100000
open Go.ChangeShapes Go.WideShapes Go.ChangeAt Go.RowKit
set_option linter.unusedVariables false

theorem brk_fl (h : List Int) : brkE h = prE (flushed h) := by unfold brkE flushed prE; split <;> rfl

/-! ### blocks -/
theorem Stays.refl {t : TypeId} {w : World} : Stays t w w := fun _ _ _ => rfl
theorem Stays.of_fr {t t' : TypeId} {w w' : World} {g : Nat} {l : List Value} (h : Fr w.heap.size g w w') (hw : Whole w g t' l) (ht : t ≠ t') : Stays t w w' := by
  intro b cur hb
  refine h.block b (Array.getElem?_eq_some_iff.1 hb).1 ?_
  rintro rfl
  unfold Whole at hw
  rw [hb] at hw
  simp only [Option.some.injEq, Obj.cells.injEq] at hw
  exact ht hw.2.1
theorem Stays.whole {t : TypeId} {w w' : World} {g : Nat} {l : List Value} (h : Stays t w w') (hw : Whole w g t l) : Whole w' g t l := hw.same (h g _ hw)

/-! ### numbers in blocks of a type, or below C -/
def IntsT (C : Nat) (t : TypeId) (k : IntKind) (w : World) (a : Option Addr) (zs : List Int) : Prop :=
  zs = [] ∨ ∃ b off, a = some ⟨b, off, none⟩ ∧ (b < C ∨ ∃ cur, w.heap[b]? = some (Obj.cells cur t (0, 0))) ∧ ∀ i, i < zs.length → w.cell? ⟨b, off + i, none⟩ = some (.int k (zs.getD i 0))
section
variable {C : Nat} {t : TypeId} {k : IntKind} {w w' : World} {a : Option Addr} {zs : List Int}
theorem IntsT.nil : IntsT C t k w a [] := .inl rfl
theorem IntsT.ints (h : IntsT C t k w a zs) : Ints k w a zs := by
  rcases h with h | ⟨b, off, ha, _, hc⟩
  · exact .inl h
  · exact .inr ⟨b, off, ha, hc⟩
theorem IntsT.keep (h : IntsT C t k w a zs) (hl : ∀ b, b < C → w'.heap[b]? = w.heap[b]?) (hs : Stays t w w') : IntsT C t k w' a zs := by
  rcases h with h | ⟨b, off, ha, hb, hc⟩
  · exact .inl h
  · have e : w'.heap[b]? = w.heap[b]? := by
      rcases hb with hb | ⟨cur, hb⟩
      · exact hl b hb
      · exact hs b cur hb
    refine .inr ⟨b, off, ha, ?_, fun i hi => ?_⟩
    · rcases hb with hb | ⟨cur, hb⟩
      · exact .inl hb
      · exact .inr ⟨cur, e.trans hb⟩
    · rw [← hc i hi]; simp only [World.cell?, e]
theorem IntsT.below (h : IntsT C t k w a zs) (hb : Below w.heap.size w w') (hC : C ≤ w.heap.size) : IntsT C t k w' a zs := h.keep (fun b hlt => hb.block b (by omega)) (.of_below hb)
theorem IntsT.take (h : IntsT C t k w a zs) (n : Nat) : IntsT C t k w a (zs.take n) := by
  rcases h with h | ⟨b, off, ha, hb, hc⟩
  · exact .inl (by simp [h])
  · refine .inr ⟨b, off, ha, hb, fun i hi => ?_⟩
    rw [List.length_take] at hi
    rw [hc i (by omega)]
    simp [show i < n by omega]
theorem IntsT.drop (h : IntsT C t k w a zs) (n : Nat) : IntsT C t k w (a.map (·.add n)) (zs.drop n) := by
  rcases h with h | ⟨b, off, ha, hb, hc⟩
  · exact .inl (by simp [h])
  · refine .inr ⟨b, off + n, ?_, hb, fun i hi => ?_⟩
    · subst ha; simp only [Option.map_some, Addr.add]; split <;> simp_all
    · rw [List.length_drop] at hi
      rw [show off + n + i = off + (n + i) by omega, hc (n + i) (by omega)]
      simp [List.getElem?_drop]
theorem IntsT.cut (h : IntsT C t k w a zs) (n cap : Nat) (hc : zs.length ≤ cap) : IntsT C t k w (if cap = n then a else a.map (·.add n)) (zs.drop n) := by
  by_cases e : cap = n
  · rw [if_pos e]; exact .inl (List.drop_eq_nil_of_le (by omega))
  · rw [if_neg e]; exact h.drop n
theorem Own.typed {B : Nat} {wr : World} {v : Value} (h : Own t k B w wr v zs) : ∃ A cap, v = .slice A zs.length cap ∧ IntsT C t k wr A zs ∧ zs.length ≤ cap ∧ (A = none → cap = 0) ∧ cap ≤ maxLen := by
  rcases h.own.2 with ⟨rfl, h0⟩ | ⟨g, cap, cur, rfl, _, hh, hc, hm, _, _⟩
  · have : zs = [] := List.eq_nil_of_length_eq_zero h0
    subst this
    exact ⟨none, 0, rfl, .nil, Nat.le_refl _, fun _ => rfl, Nat.zero_le _⟩
  · refine ⟨_, cap, rfl, .inr ⟨g, 0, rfl, .inr ⟨cur, hh⟩, fun i hi => ?_⟩, hc, (fun h => by cases h), hm⟩
    rw [Nat.zero_add, h.own.cellAt i (by omega)]
    simp [List.getElem?_eq_getElem hi]
theorem IntsT.new (w : World) (t : TypeId) (zs : List Int) : IntsT C t k (w.alloc (.cells (zs.map (Value.int k)).toArray t)) (some ⟨w.heap.size, 0, none⟩) zs := by
  refine .inr ⟨_, _, rfl, .inr ⟨_, heap_alloc_new w _⟩, fun i hi => ?_⟩
  rw [Nat.zero_add, cell_of_row _ w.heap.size i _ t (0, 0) (heap_alloc_new w _)]
  simp [List.getElem?_eq_getElem hi]
end

/-! ### events -/
/-- An event, and where its numbers lie. -/
structure Ea where
  e : Ev
  A : Option Addr
  c : Nat
def eaL (k : IntKind) (x : Ea) : List Value := [.int .i64 x.e.k, .int k x.e.r, .slice x.A x.e.n.length x.c]
def flatE (k : IntKind) (l : List Ea) : List Value := l.flatMap (eaL k)
def EaOk (C : Nat) (w : World) (x : Ea) : Prop := IntsT C 3 .i64 w x.A x.e.n
theorem flatE_append (k : IntKind) (a b : List Ea) : flatE k (a ++ b) = flatE k a ++ flatE k b := by unfold flatE; simp
theorem flatE_get (k : IntKind) (l : List Ea) : ∀ (i d : Nat), d < 3 → (flatE k l)[i * 3 + d]? = (l[i]?).bind (fun c => (eaL k c)[d]?) := by
  induction l with
  | nil => intro i d _; simp [flatE]
  | cons c cs ih =>
    intro i d hd
    have hl : (eaL k c).length = 3 := rfl
    unfold flatE at ih ⊢
    rw [List.flatMap_cons]
    cases i with
    | zero => rw [List.getElem?_append_left (by omega)]; simp
    | succ i =>
      rw [List.getElem?_append_right (by omega), hl, show (i + 1) * 3 + d - 3 = i * 3 + d by omega, ih i d hd]
      simp
theorem flatE_one (k : IntKind) (l : List Ea) : ∀ u ∈ flatE k l, u.oneCell' = true := by
  intro u hu
  unfold flatE at hu
  obtain ⟨c, _, hc⟩ := List.mem_flatMap.1 hu
  simp only [eaL, List.mem_cons, List.not_mem_nil, or_false] at hc
  rcases hc with rfl | rfl | rfl <;> rfl
theorem flatE_take (k : IntKind) (l : List Ea) (n : Nat) : flatE k (l.take n) = (flatE k l).take (n * 3) := by
  induction l generalizing n with
  | nil => simp [flatE]
  | cons c cs ih =>
    cases n with
    | zero => simp [flatE]
    | succ n =>
      have hl : (eaL k c).length = 3 := rfl
      have e := ih n
      unfold flatE at e ⊢
      rw [List.take_succ_cons, List.flatMap_cons, List.flatMap_cons, e, List.take_append, hl, show (n + 1) * 3 - 3 = n * 3 by omega, List.take_of_length_le (by omega : (eaL k c).length ≤ (n + 1) * 3)]
theorem EaOk.keep {C : Nat} {w w' : World} {x : Ea} (h : EaOk C w x) (hl : ∀ b, b < C → w'.heap[b]? = w.heap[b]?) (hs : Stays 3 w w') : EaOk C w' x := IntsT.keep h hl hs

/-- A slice of events, in a block of type te or below C. -/
def Evs (C : Nat) (te : TypeId) (k : IntKind) (w : World) (A : Option Addr) (es : List Ev) : Prop :=
  ∃ l : List Ea, l.map (·.e) = es ∧ (∀ x ∈ l, EaOk C w x) ∧ (l = [] ∨ ∃ b off, A = some ⟨b, off, none⟩ ∧ (b < C ∨ ∃ cur, w.heap[b]? = some (Obj.cells cur te (0, 0))) ∧ ∀ j v, (flatE k l)[j]? = some v → w.cell? ⟨b, off + j, none⟩ = some v)
section
variable {C : Nat} {te : TypeId} {k : IntKind} {w w' : World} {A : Option Addr} {es : List Ev}
theorem Evs.nil : Evs C te k w A [] := ⟨[], rfl, by simp, .inl rfl⟩
theorem Evs.keep (h : Evs C te k w A es) (hl : ∀ b, b < C → w'.heap[b]? = w.heap[b]?) (hs : Stays 3 w w') (ht : Stays te w w') : Evs C te k w' A es := by
  obtain ⟨l, he, hok, h⟩ := h
  refine ⟨l, he, fun x hx => (hok x hx).keep hl hs, ?_⟩
  rcases h with h | ⟨b, off, ha, hb, hc⟩
  · exact .inl h
  · have e : w'.heap[b]? = w.heap[b]? := by
      rcases hb with hb | ⟨cur, hb⟩
      · exact hl b hb
      · exact ht b cur hb
    refine .inr ⟨b, off, ha, ?_, fun j v hj => ?_⟩
    · rcases hb with hb | ⟨cur, hb⟩
      · exact .inl hb
      · exact .inr ⟨cur, e.trans hb⟩
    · rw [← hc j v hj]; simp only [World.cell?, e]
theorem Evs.below (h : Evs C te k w A es) (hb : Below w.heap.size w w') (hC : C ≤ w.heap.size) : Evs C te k w' A es := h.keep (fun b hlt => hb.block b (by omega)) (.of_below hb) (.of_below hb)
theorem Evs.take (h : Evs C te k w A es) (n : Nat) : Evs C te k w A (es.take n) := by
  obtain ⟨l, he, hok, h⟩ := h
  refine ⟨l.take n, by rw [← he, List.map_take], fun x hx => hok x (List.mem_of_mem_take hx), ?_⟩
  rcases h with h | ⟨b, off, ha, hb, hc⟩
  · exact .inl (by simp [h])
  · refine .inr ⟨b, off, ha, hb, fun j v hj => hc j v ?_⟩
    rw [flatE_take, List.getElem?_take] at hj
    split at hj
    · exact hj
    · cases hj
def evAt (es : List Ev) (i : Nat) : Ev := es.getD i ⟨0, 0, []⟩
theorem Evs.at (h : Evs C te k w A es) {i : Nat} (hi : i < es.length) : ∃ b off A' c', A = some ⟨b, off, none⟩ ∧ b < w.heap.size ∧ w.cell? ⟨b, off + i * 3, none⟩ = some (.int .i64 (evAt es i).k) ∧
    w.cell? ⟨b, off + i * 3 + 1, none⟩ = some (.int k (evAt es i).r) ∧ w.cell? ⟨b, off + i * 3 + 2, none⟩ = some (.slice A' (evAt es i).n.length c') ∧ IntsT C 3 .i64 w A' (evAt es i).n := by
  obtain ⟨l, rfl, hok, h⟩ := h
  rw [List.length_map] at hi
  rcases h with rfl | ⟨b, off, ha, hb, hc⟩
  · simp at hi
  · have hx : l[i]? = some l[i] := List.getElem?_eq_getElem hi
    have he : evAt (l.map (·.e)) i = l[i].e := by unfold evAt; rw [List.getD_eq_getElem?_getD, List.getElem?_map, hx]; rfl
    have g : ∀ d v, d < 3 → (eaL k l[i])[d]? = some v → w.cell? ⟨b, off + i * 3 + d, none⟩ = some v := by
      intro d v hd hv
      rw [Nat.add_assoc]
      exact hc _ v (by rw [flatE_get k l i d hd, hx]; exact hv)
    have g0 := g 0 _ (by omega) rfl
    refine ⟨b, off, l[i].A, l[i].c, ha, block_lt_of_cell g0, ?_, ?_, ?_, ?_⟩
    · rw [he]; exact g0
    · rw [he]; exact g 1 _ (by omega) rfl
    · rw [he]; exact g 2 _ (by omega) rfl
    · rw [he]; exact hok _ (List.getElem_mem hi)
end

/-! ### rows of events that a call makes -/
structure ElemE (P : Program) (S e : TypeId) (k : IntKind) (bytes : Nat) : Prop where
  under : P.underlying S = some (.slice e)
  info : (P.info? e).map (fun i => (i.zero, i.size, i.bytes)) = some (some (.agg #[.int .i64 0, .int k 0, .slice none 0 0]), 3, bytes)
theorem elemEv : ElemE Tryz.prog 54 56 .i32 40 := ⟨Tryz.underlying54, by kernel_rfl⟩
structure OwnE (C : Nat) (te : TypeId) (k : IntKind) (B : Nat) (w wr : World) (v : Value) (es : List Ev) : Prop where
  row : ∃ l : List Ea, l.map (·.e) = es ∧ wr.ownsRow B te 3 v l.length (flatE k l) ∧ ∀ x ∈ l, EaOk C wr x
  bel : Below B w wr
  le : B ≤ wr.heap.size
  cle : C ≤ B
section
variable {C : Nat} {te : TypeId} {k : IntKind} {B : Nat} {w wr w1 : World} {v : Value} {es : List Ev}
theorem OwnE.start (hB : B ≤ w.heap.size) (hC : C ≤ B) : OwnE C te k B w w (.slice none 0 0) [] := ⟨⟨[], rfl, World.ownsRow_nil _ _ _ _, by simp⟩, Below.refl _ _, hB, hC⟩
theorem OwnE.empty (w : World) (hC : C ≤ w.heap.size) : OwnE C te k w.heap.size w (w.alloc (.cells #[] te)) (.slice (some ⟨w.heap.size, 0, none⟩) 0 0) [] :=
  ⟨⟨[], rfl, ⟨by simp [flatE], .inr ⟨w.heap.size, 0, #[], rfl, Nat.le_refl _, heap_alloc_new w _, Nat.le_refl _, Nat.zero_le _, rfl, rfl⟩⟩, by simp⟩, (Below.refl _ _).alloc (Nat.le_refl _) _, by simp, hC⟩
theorem OwnE.now (h : OwnE C te k B w wr v es) : OwnE C te k B wr wr v es := ⟨h.row, Below.refl _ _, h.le, h.cle⟩
theorem OwnE.since (h : OwnE C te k B wr wr v es) (hb : Below B w wr) : OwnE C te k B w wr v es := ⟨h.row, hb, h.le, h.cle⟩
theorem OwnE.less {B' : Nat} (h : OwnE C te k B w wr v es) (hB : B' ≤ B) (hC : C ≤ B') : OwnE C te k B' w wr v es := by
  obtain ⟨l, he, ho, hok⟩ := h.row
  refine ⟨⟨l, he, ⟨ho.1, ?_⟩, hok⟩, h.bel.mono hB, by have := h.le; omega, hC⟩
  rcases ho.2 with h0 | ⟨g, cap, cur, hv, hb, h1⟩
  · exact .inl h0
  · exact .inr ⟨g, cap, cur, hv, by omega, h1⟩
theorem OwnE.form (h : OwnE C te k B w wr v es) : ∃ A cap, v = .slice A es.length cap ∧ Evs C te k wr A es ∧ es.length ≤ cap ∧ (A = none → cap = 0) ∧ cap ≤ maxLen := by
  obtain ⟨l, rfl, ho, hok⟩ := h.row
  rw [List.length_map]
  rcases ho.2 with ⟨rfl, h0⟩ | ⟨g, cap, cur, rfl, _, hh, hc, hm, _, _⟩
  · have : l = [] := List.eq_nil_of_length_eq_zero h0
    subst this
    exact ⟨none, 0, rfl, .nil, Nat.le_refl _, fun _ => rfl, Nat.zero_le _⟩
  · refine ⟨_, cap, rfl, ⟨l, rfl, hok, .inr ⟨g, 0, rfl, .inr ⟨cur, hh⟩, fun i v hi => ?_⟩⟩, hc, (fun h => by cases h), hm⟩
    have := ho.cells (g := g) rfl i v hi
    rwa [show (⟨g, 0, none⟩ : Addr).add i = ⟨g, 0 + i, none⟩ by unfold Addr.add; split <;> simp_all] at this
theorem OwnE.slice (h : OwnE C te k B w wr v es) : ∃ A n cap, v = .slice A n cap := by obtain ⟨A, cap, e, _⟩ := h.form; exact ⟨A, _, cap, e⟩
/-- Where blocks of its types, and those below C, stay. -/
theorem OwnE.keep (h : OwnE C te k B wr wr v es) (hl : ∀ b, b < C → w1.heap[b]? = wr.heap[b]?) (hs : Stays 3 wr w1) (ht : Stays te wr w1) (hz : wr.heap.size ≤ w1.heap.size) : OwnE C te k B w1 w1 v es := by
  obtain ⟨l, he, ho, hok⟩ := h.row
  refine ⟨⟨l, he, ⟨ho.1, ?_⟩, fun x hx => (hok x hx).keep hl hs⟩, Below.refl _ _, Nat.le_trans h.le hz, h.cle⟩
  rcases ho.2 with h0 | ⟨g, cap, cur, hv, hB, hh, h1⟩
  · exact .inl h0
  · exact .inr ⟨g, cap, cur, hv, hB, (ht g cur hh).trans hh, h1⟩
theorem OwnE.later (h : OwnE C te k B w wr v es) (hb : Below wr.heap.size wr w1) : OwnE C te k B w w1 v es :=
  (h.now.keep (fun b hlt => hb.block b (by have := h.le; have := h.cle; omega)) (.of_below hb) (.of_below hb) hb.size).since (h.bel.trans (hb.mono h.le))
theorem OwnE.alloc (h : OwnE C te k B w wr v es) (o : Obj) : OwnE C te k B w (wr.alloc o) v es := h.later ((Below.refl _ _).alloc (Nat.le_refl _) _)
theorem OwnE.grown {v' : Value} {l : List Ea} {ns : List Ea} (h : OwnE C te k B w wr v es) (he : l.map (·.e) = es) (hrow : wr.ownsRow B te 3 v l.length (flatE k l)) (hok : ∀ x ∈ l, EaOk C wr x) (hns : ∀ x ∈ ns, EaOk C wr x) (h3 : te ≠ 3)
    (h1 : w1.ownsRow B te 3 v' (l.length + ns.length) (flatE k l ++ flatE k ns)) (hg : wr.grownBy w1 v.ownBlock) : OwnE C te k B w w1 v' (es ++ ns.map (·.e)) ∧ (∀ t, t ≠ te → Stays t wr w1) ∧ Below B wr w1 := by
  have far : ∀ t, t ≠ te → Stays t wr w1 := by
    intro t ht g cur hh
    refine hg.block g (Array.getElem?_eq_some_iff.1 hh).1 ?_
    intro q
    rcases hrow.2 with ⟨rfl, _⟩ | ⟨g2, cap, cur2, rfl, _, hh2, _⟩
    · cases q
    · have : g = g2 := by simpa [Value.ownBlock] using q
      subst this
      rw [hh] at hh2
      simp only [Option.some.injEq, Obj.cells.injEq] at hh2
      exact ht hh2.2.1
  have hb1 : Below B wr w1 := (Below.refl _ _).grown hg h.le (own_ge hrow)
  have low : ∀ b, b < C → w1.heap[b]? = wr.heap[b]? := fun b hlt => hb1.block b (by have := h.cle; omega)
  refine ⟨⟨⟨l ++ ns, by rw [List.map_append, he], by simpa [flatE_append] using h1, ?_⟩, h.bel.grown hg h.le (own_ge hrow), Nat.le_trans h.le hg.size, h.cle⟩, far, hb1⟩
  intro x hx
  rcases List.mem_append.1 hx with q | q
  · exact (hok x q).keep low (far 3 (Ne.symm h3))
  · exact (hns x q).keep low (far 3 (Ne.symm h3))
end
theorem cells_new3 (w : World) (l : List Value) (t : TypeId) : ∀ j u, l[j]? = some u → (w.alloc (.cells l.toArray t)).cell? ((⟨w.heap.size, 0, none⟩ : Addr).add j) = some u := by
  intro j u hj
  rw [show (⟨w.heap.size, 0, none⟩ : Addr).add j = ⟨w.heap.size, j, none⟩ by unfold Addr.add; split <;> simp_all, (Whole.new w t l).cell j, hj]
/-- 'append(row, e)', e in a block of its own. -/
theorem wpList_pushE {P : Program} {S te : TypeId} {k : IntKind} {bytes : Nat} (E : ElemE P S te k bytes) {ops : Array Oper} {rest : List Oper} {o : Oper} {a : Act} {Q : Exit → Act → World → Prop} {C B : Nat} {w wr : World} {v : Value} {es : List Ev} (kd r : Int) (N : Option Addr) (c : Nat) (ns : List Int) (n : Nat) (hn : ns.length = n) (hi : IntsT C 3 .i64 wr N ns)
    (hgd : Region.wanted o (yielded ops a.tmps) = true) (s y : Operand) (ho : o.op = .call { callee := .builtin .append, args := #[s, y], argTypes := #[S, S] })
    (hs : a.eval s = v) (hy : a.eval y = .slice (some ⟨wr.heap.size, 0, none⟩) 1 1) (hown : OwnE C te k B w wr v es) (hlen : es.length ≤ 1000000) (hby : bytes ≤ 1000) (h3 : te ≠ 3)
    (h : ∀ v' w1, OwnE C te k B w w1 v' (es ++ [⟨kd, r, ns⟩]) → (∀ t, t ≠ te → Stays t (wr.alloc (.cells #[.int .i64 kd, .int k r, .slice N n c] te)) w1) → Below B (wr.alloc (.cells #[.int .i64 kd, .int k r, .slice N n c] te)) w1 → wpList P ops Q rest (a.put o.dst v') w1) :
    wpList P ops Q (o :: rest) a (wr.alloc (.cells #[.int .i64 kd, .int k r, .slice N n c] te)) := by
  subst hn
  obtain ⟨i0, hi0, hz0, hz1, hz2⟩ := info_parts E.info
  have hown' := hown.alloc (.cells #[.int .i64 kd, .int k r, .slice N ns.length c] te)
  obtain ⟨l, he, hrow, hok⟩ := hown'.row
  have hl : l.length = es.length := by rw [← he, List.length_map]
  have hb : (l.length + 1) * bytes ≤ 1000001 * 1000 := Nat.mul_le_mul (by omega) hby
  have hx : EaOk C (wr.alloc (.cells #[.int .i64 kd, .int k r, .slice N ns.length c] te)) ⟨⟨kd, r, ns⟩, N, c⟩ := IntsT.below hi ((Below.refl _ _).alloc (Nat.le_refl _) _) (by have := hown.le; have := hown.cle; omega)
  refine wpList_want hgd fun K hK => ?_
  refine wp_append_own _ s y S ho B te i0 _ 3 bytes E.under hi0 hz0 hz1 hz2 rfl (by decide) v l.length _ hs hrow ⟨wr.heap.size, 0, none⟩ 1 1 (eaL k ⟨⟨kd, r, ns⟩, N, c⟩) hy rfl (cells_new3 _ (eaL k ⟨⟨kd, r, ns⟩, N, c⟩) te) (by have := flatE_one k [⟨⟨kd, r, ns⟩, N, c⟩]; simpa [flatE] using this)
    (by unfold maxLen; omega) (by omega) (by have := hown.le; simp; omega) ?_
  intro v' w1 h1 hg _
  obtain ⟨q1, q2, q3⟩ := hown'.grown (ns := [⟨⟨kd, r, ns⟩, N, c⟩]) he hrow hok (by intro x hx'; simp at hx'; subst hx'; exact hx) h3 (by simpa [flatE] using h1) hg
  exact hK _ _ (h v' w1 q1 q2 q3)
end Go.Proofs.YtkijclgbpbhglaaGreatDoor
