/-
  The walk of the law NumPlays.
-/
import Derived.Test.YtllhhadhogbcdaaRdr5
import Derived.Test.YtllhhadhogbcdaaChain
import Derived.Deep.Cut
import Derived.Deep.CutBlock
import Derived.Deep.CutRange
import Derived.Deep.RegionHeld3
namespace Go.Proofs.Ytllhhadhogbcdaa
open Go.ChangeShapes Go.WideShapes Go.ChangeAt Go.RowKit

/-- A slice of calls: a kind and a number each. -/
def Acts (w : World) (a : Option Addr) (ks : List (Int × Int)) : Prop :=
  ks = [] ∨ ∃ b off, a = some ⟨b, off, none⟩ ∧ ∀ i, i < ks.length → w.cell? ⟨b, off + i * 2, none⟩ = some (.int .i64 (ks.getD i (0, 0)).1) ∧ w.cell? ⟨b, off + i * 2 + 1, none⟩ = some (.int .i64 (ks.getD i (0, 0)).2)

theorem Acts.at {w : World} {a : Option Addr} {ks : List (Int × Int)} (h : Acts w a ks) {i : Nat} (hi : i < ks.length) :
    ∃ b off, a = some ⟨b, off, none⟩ ∧ w.cell? ⟨b, off + i * 2, none⟩ = some (.int .i64 (ks.getD i (0, 0)).1) ∧ w.cell? ⟨b, off + i * 2 + 1, none⟩ = some (.int .i64 (ks.getD i (0, 0)).2) ∧ b < w.heap.size := by
  rcases h with h | ⟨b, off, ha, hc⟩
  · subst h; simp at hi
  · exact ⟨b, off, ha, (hc i hi).1, (hc i hi).2, block_lt_of_cell (hc i hi).1⟩

theorem reads_of_rdr {w : World} {g : Nat} {A : Option Addr} {c : Nat} {bs : List Int} {pl er : Int} (h : Rdr w g A c bs pl er) : Reads w g bs pl er := ⟨A, c, h.blk, h.ints, h.cap_, h.nil_⟩

theorem Reads.drew {w : World} {g : Nat} {bs : List Int} {pl er : Int} (h : Reads w g bs pl er) : Reads w.drew g bs pl er := by
  obtain ⟨A, c, hw, hi, hc, hA⟩ := h.ex
  exact ⟨A, c, hw.drew, hi.drew, hc, hA⟩

/-- What is seen of the two readers stays behind a call that makes new blocks alone. -/
theorem sees_later {W w w' : World} {g M n cap t : Nat} {a : Option Addr} {bs : List Int} {E : Int}
    (h : w.cell? ⟨M, 0, none⟩ = some (.slice a n cap) ∧ w.cell? ⟨M, 1, none⟩ = some (.int .i64 t) ∧ w.cell? ⟨M, 2, none⟩ = some (.int .i64 E) ∧ Whole w M 44 [.slice a n cap, .int .i64 t, .int .i64 E] ∧ Reads w g bs t E ∧ Below W.heap.size W w) (hb : Below w.heap.size w w') :
    w'.cell? ⟨M, 0, none⟩ = some (.slice a n cap) ∧ w'.cell? ⟨M, 1, none⟩ = some (.int .i64 t) ∧ w'.cell? ⟨M, 2, none⟩ = some (.int .i64 E) ∧ Whole w' M 44 [.slice a n cap, .int .i64 t, .int .i64 E] ∧ Reads w' g bs t E ∧ Below W.heap.size W w' := by
  obtain ⟨h0, h1, h2, hw, h3, h4⟩ := h
  exact ⟨(hb.cell (block_lt_of_cell h0)).trans h0, (hb.cell (block_lt_of_cell h1)).trans h1, (hb.cell (block_lt_of_cell h2)).trans h2, hw.later hb, h3.later hb, h4.trans (hb.mono h4.size)⟩

/-- Behind the document's reader being set anew, and a block more. -/
theorem after_store {W w2 : World} {M g : Nat} {bs : List Int} {pl er : Int} {x : List Value} (hM : Whole w2 M 44 x) (nx : ∀ z, Value.int .u8 z ∉ x) (hx : x.length = 3) (hR : Reads w2 g bs pl er) (hne : g ≠ M) (hb : Below W.heap.size W w2) (hW : W.heap.size ≤ M)
    (v0 v1 v2 : Value) (o : Obj) : Whole ((((w2.setCell ⟨M, 0, none⟩ v0).setCell ⟨M, 1, none⟩ v1).setCell ⟨M, 2, none⟩ v2).alloc o) M 44 [v0, v1, v2] ∧
      Reads ((((w2.setCell ⟨M, 0, none⟩ v0).setCell ⟨M, 1, none⟩ v1).setCell ⟨M, 2, none⟩ v2).alloc o) g bs pl er ∧ Below W.heap.size W ((((w2.setCell ⟨M, 0, none⟩ v0).setCell ⟨M, 1, none⟩ v1).setCell ⟨M, 2, none⟩ v2).alloc o) := by
  have ho : Only M w2 (((w2.setCell ⟨M, 0, none⟩ v0).setCell ⟨M, 1, none⟩ v1).setCell ⟨M, 2, none⟩ v2) := ((Only.put 0 v0).trans (Only.put 1 v1)).trans (Only.put 2 v2)
  have hw := ((hM.put 0 v0).put 1 v1).put 2 v2
  match x, hx with
  | [x0, x1, x2], _ =>
    simp at hw
    have hr := hR.far ho hM nx hne
    have hbb := ho.below hb hb.size hW
    have hbn := (Below.refl (((w2.setCell ⟨M, 0, none⟩ v0).setCell ⟨M, 1, none⟩ v1).setCell ⟨M, 2, none⟩ v2).heap.size (((w2.setCell ⟨M, 0, none⟩ v0).setCell ⟨M, 1, none⟩ v1).setCell ⟨M, 2, none⟩ v2)).alloc (Nat.le_refl _) o
    exact ⟨hw.alloc o, hr.later hbn, hbb.trans (hbn.mono hbb.size)⟩

theorem after_store0 {W w2 : World} {M g : Nat} {bs : List Int} {pl er : Int} {x : List Value} (hM : Whole w2 M 44 x) (nx : ∀ z, Value.int .u8 z ∉ x) (hx : x.length = 3) (hR : Reads w2 g bs pl er) (hne : g ≠ M) (hb : Below W.heap.size W w2) (hW : W.heap.size ≤ M)
    (v0 v1 v2 : Value) : Whole (((w2.setCell ⟨M, 0, none⟩ v0).setCell ⟨M, 1, none⟩ v1).setCell ⟨M, 2, none⟩ v2) M 44 [v0, v1, v2] ∧
      Reads (((w2.setCell ⟨M, 0, none⟩ v0).setCell ⟨M, 1, none⟩ v1).setCell ⟨M, 2, none⟩ v2) g bs pl er ∧ Below W.heap.size W (((w2.setCell ⟨M, 0, none⟩ v0).setCell ⟨M, 1, none⟩ v1).setCell ⟨M, 2, none⟩ v2) := by
  have ho : Only M w2 (((w2.setCell ⟨M, 0, none⟩ v0).setCell ⟨M, 1, none⟩ v1).setCell ⟨M, 2, none⟩ v2) := ((Only.put 0 v0).trans (Only.put 1 v1)).trans (Only.put 2 v2)
  have hw := ((hM.put 0 v0).put 1 v1).put 2 v2
  match x, hx with
  | [x0, x1, x2], _ =>
    simp at hw
    exact ⟨hw, hR.far ho hM nx hne, ho.below hb hb.size hW⟩

/-- A row of bytes stays, where the document's reader is set anew, a block is made, and a reader turns. -/
theorem ints_after {w2 w4 : World} {M g : Nat} {bs : List Int} {pl er : Int} {x : List Value} {A : Option Addr} {out : List Int} {v0 v1 v2 : Value} {o : Obj} (hM : Whole w2 M 44 x) (nx : ∀ z, Value.int .u8 z ∉ x) (i2 : Ints .u8 w2 A out)
    (ho4 : Only g ((((w2.setCell ⟨M, 0, none⟩ v0).setCell ⟨M, 1, none⟩ v1).setCell ⟨M, 2, none⟩ v2).alloc o) w4) (hR : Reads ((((w2.setCell ⟨M, 0, none⟩ v0).setCell ⟨M, 1, none⟩ v1).setCell ⟨M, 2, none⟩ v2).alloc o) g bs pl er) : Ints .u8 w4 A out := by
  have ho : Only M w2 (((w2.setCell ⟨M, 0, none⟩ v0).setCell ⟨M, 1, none⟩ v1).setCell ⟨M, 2, none⟩ v2) := ((Only.put 0 v0).trans (Only.put 1 v1)).trans (Only.put 2 v2)
  obtain ⟨A', c', hw, _⟩ := hR.ex
  exact ho4.ints ((ho.ints i2 hM nx).alloc o) hw (no_u8 _ _ _ _ _)

theorem kOut_byte (xs : List Int) (t : Nat) (E n : Int) (hb : Byte xs) : Byte (kOut xs t E n) := by
  unfold kOut
  split
  · exact fun x hx => hb x (List.mem_of_mem_drop (List.mem_of_mem_take hx))
  · intro x hx; cases hx

theorem sees_start {W w : World} {g M n cap t : Nat} {a : Option Addr} {bs : List Int} {E : Int} (hw : Whole w M 44 [.slice a n cap, .int .i64 t, .int .i64 E]) (hr : Reads w g bs t E) (hb : Below W.heap.size W w) :
    w.drew.cell? ⟨M, 0, none⟩ = some (.slice a n cap) ∧ w.drew.cell? ⟨M, 1, none⟩ = some (.int .i64 t) ∧ w.drew.cell? ⟨M, 2, none⟩ = some (.int .i64 E) ∧ Whole w.drew M 44 [.slice a n cap, .int .i64 t, .int .i64 E] ∧ Reads w.drew g bs t E ∧ Below W.heap.size W w.drew :=
  ⟨by simpa using hw.drew.cell 0, by simpa using hw.drew.cell 1, by simpa using hw.drew.cell 2, hw.drew, hr.drew, hb.drew⟩

theorem nAt_le (xs : List Int) (t : Nat) (E : Int) (hb : Byte xs) (ht : t ≤ xs.length) : nAt xs t E ≤ xs.length := by
  unfold nAt
  obtain ⟨N, k, er, hr, hk⟩ := rd_some xs t hb
  split
  · rw [hr]; simp; omega
  · exact ht
theorem uAt_le (xs : List Int) (t : Nat) (E most : Int) (hb : Byte xs) (ht : t ≤ xs.length) : uAt xs t E most ≤ xs.length := by
  unfold uAt
  split
  · exact ht
  · exact nAt_le xs t E hb ht
theorem kAt_le (xs : List Int) (t : Nat) (E n : Int) (ht : t ≤ xs.length) : kAt xs t E n ≤ xs.length := by
  unfold kAt
  split
  · rename_i h
    have : 0 ≤ n ∧ n ≤ (xs.length : Int) - (t : Int) := by simpa [fits] using h.2
    omega
  · exact ht

set_option maxRecDepth 100000 in
set_option maxHeartbeats 4000000 in
theorem numPlays_walk (a : Option Addr) (len cap : Nat) (zs : List Int) (aA : Option Addr) (lenA capA : Nat) (ks : List (Int × Int)) (w : World) (hrow : IsRow .u8 w a len cap zs)
    (hacts : Acts w aA ks) (hks : ks.length = lenA) (hb64 : ∀ x ∈ ks, x.2 ≤ 9223372036854775807) (hlA : lenA ≤ 9223372036854775807) :
    Calls Try.prog 6 #[.slice a len cap, .slice aA lenA capA] w fun e w' => e = .returned (.bool true) ∧ Below w.heap.size w w' := by
  obtain ⟨hz, hl, hn0, hmax⟩ := hrow.len
  obtain ⟨n, hn, hn200, hnl⟩ : ∃ n : Nat, min (len : Int) 200 = (n : Int) ∧ n ≤ 200 ∧ n ≤ len := ⟨min len 200, by omega, by omega, by omega⟩
  have hi := hrow.ints.take n
  have hb := byte_of hrow.wf n
  have hx : (zs.take n).length = n := by rw [List.length_take]; omega
  unfold maxLen at hmax
  clear hrow
  have HX := hide hx
  have HN0 := hide hn0
  have HKS := hide hks
  have HB64 := hide hb64
  clear hz hn0 hx hks hb64
  generalize zs.take n = xs at *
  go_enter Try.func6, Try.ntmps6
  go_wp2_with fail
  refine (new_any a n cap xs w hi HX.out HN0.out (by omega)).mono ?_
  rintro e w1 ⟨g, A', c', rfl, hrdr, hg, hb1⟩
  have hR := reads_of_rdr hrdr
  have hglt : g < w1.heap.size := (Array.getElem?_eq_some_iff.1 hrdr.blk).1
  clear hrdr
  have hz1 := hb1.size
  have hR0 := hR.later ((Below.refl _ _).alloc (Nat.le_refl _) (.cells #[.slice a n cap, .int .i64 0, .int .i64 0] 44))
  have hM0 := Whole.new w1 44 [.slice a n cap, .int .i64 0, .int .i64 0]
  have hb0 := hb1.alloc hz1 (.cells #[.slice a n cap, .int .i64 0, .int .i64 0] 44)
  have hMw : w.heap.size ≤ w1.heap.size := hz1
  clear hR hb1 hz1
  go_wp2
  go_loopw [7] (fun i wr => ∃ (k t : Nat) (E : Int), k ≤ lenA ∧ k ≤ 40 ∧ i = .int .i64 k ∧ t ≤ n ∧ Reads wr g (xs.drop t) t E ∧ Whole wr w1.heap.size 44 [.slice a n cap, .int .i64 t, .int .i64 E] ∧ Below w.heap.size w wr)
    (fun i _ => 40 - (intOf i).toNat)
  case atStart => exact ⟨0, 0, 0, by omega, by omega, rfl, by omega, hR0, hM0, hb0⟩
  case round =>
    obtain ⟨k, t, E, hkl, hk40, rfl, htn, hR, hM, hbw⟩ := hrel
    by_cases hlt : k < lenA ∧ k < 40
    · obtain ⟨hlt, hlt40⟩ := hlt
      obtain ⟨b, off, rfl, hk1, hk2, hbb⟩ := hacts.at (i := k) (by rw [HKS.out]; exact hlt)
      have hN64 : (ks.getD k (0, 0)).2 ≤ 9223372036854775807 := HB64.out _ (by rw [List.getD_eq_getElem?_getD, List.getElem?_eq_getElem (by rw [HKS.out]; exact hlt)]; exact List.getElem_mem _)
      rw [← hbw.cell (p := ⟨b, off + k * 2, none⟩) hbb] at hk1
      rw [← hbw.cell (p := ⟨b, off + k * 2 + 1, none⟩) hbb] at hk2
      generalize (ks.getD k (0, 0)).1 = K1 at *
      generalize (ks.getD k (0, 0)).2 = N1 at *
      have hd40 : decide ((k : Int) < 40) = true := decide_eq_true (by omega)
      have hbn : Below wr.heap.size wr (wr.alloc (.cells #[.int .i64 K1, .int .i64 N1] 46)) := (Below.refl _ _).alloc (Nat.le_refl _) _
      have hR1 := hR.later hbn
      have hM1 := hM.later hbn
      have hMlt0 := hM.lt
      have hbw1 := hbw.trans (hbn.mono hbw.size)
      have hgM : g ≠ w1.heap.size := by omega
      have HR1 := hide hR1
      have HM1 := hide hM1
      clear hR hM hR1 hM1 hbn
      have hxl : xs.length ≤ 1000 := by rw [HX.out]; omega
      have htx : t ≤ xs.length := by rw [HX.out]; exact htn
      have m0 : (wr.alloc (.cells #[.int .i64 K1, .int .i64 N1] 46)).cell? ⟨w1.heap.size, 0, none⟩ = some (.slice a n cap) := by simpa using HM1.out.cell 0
      have m1 : (wr.alloc (.cells #[.int .i64 K1, .int .i64 N1] 46)).cell? ⟨w1.heap.size, 1, none⟩ = some (.int .i64 t) := by simpa using HM1.out.cell 1
      have m2 : (wr.alloc (.cells #[.int .i64 K1, .int .i64 N1] 46)).cell? ⟨w1.heap.size, 2, none⟩ = some (.int .i64 E) := by simpa using HM1.out.cell 2
      have hMr : w1.heap.size < wr.heap.size := hMlt0
      have hMr1 : w1.heap.size ≠ wr.heap.size := by omega
      have hMr2 : wr.heap.size ≠ w1.heap.size := by omega
      clear hMlt0
      by_cases hK0 : K1 = 0
      · subst hK0
        have KN := hide (rnumber a n cap xs t E _ (hi.below hbw1) HX.out hb (by omega) (by omega) htn)
        have KR := hide (fun W (h : Reads W g (xs.drop t) t E) => number_any g xs t E W h hb hxl htx)
        have hT := nAt_le xs t E hb htx
        rw [HX.out] at hT
        generalize nAt xs t E = t' at *
        generalize nEr xs t E = E' at *
        generalize nVal xs t E = V at *
        go_wp2_with fail
        refine KN.out.mono ?_
        rintro e w2 ⟨rfl, hb2⟩
        have HM2 := hide (HM1.out.later hb2)
        have HR2 := hide (HR1.out.later hb2)
        have hbw2 := hbw1.trans (hb2.mono hbw1.size)
        have q0 : w2.cell? ⟨w1.heap.size, 0, none⟩ = some (.slice a n cap) := by simpa using HM2.out.cell 0
        have q1 : w2.cell? ⟨w1.heap.size, 1, none⟩ = some (.int .i64 t) := by simpa using HM2.out.cell 1
        have q2 : w2.cell? ⟨w1.heap.size, 2, none⟩ = some (.int .i64 E) := by simpa using HM2.out.cell 2
        have f0 := HM2.out.frozen 0
        have f1 := HM2.out.frozen 1
        have f2 := HM2.out.frozen 2
        have hMlt := HM2.out.lt
        clear m0 m1 m2 hk1 hk2 hb2
        go_wp2_with fail
        refine (KR.out _ (after_store HM2.out (no_u8 _ _ _ _ _) rfl HR2.out hgM hbw2 hMw _ _ _ _).2.1).mono ?_
        rintro e w4 ⟨rfl, ho, hR4⟩
        have HR4 := hide hR4
        have HM4 := hide ((after_store HM2.out (no_u8 _ _ _ _ _) rfl HR2.out hgM hbw2 hMw _ _ _ _).1.far ho (Ne.symm hgM))
        have hb4 := ho.below (after_store HM2.out (no_u8 _ _ _ _ _) rfl HR2.out hgM hbw2 hMw _ _ _ _).2.2 (after_store HM2.out (no_u8 _ _ _ _ _) rfl HR2.out hgM hbw2 hMw _ _ _ _).2.2.size hg
        clear hR4 ho q0 q1 q2 f0 f1 f2 hMlt
        go_wp2_with fail
        go_region_held3 (fun w' => w'.cell? ⟨w1.heap.size, 0, none⟩ = some (.slice a n cap) ∧ w'.cell? ⟨w1.heap.size, 1, none⟩ = some (.int .i64 t') ∧ w'.cell? ⟨w1.heap.size, 2, none⟩ = some (.int .i64 E') ∧ Whole w' w1.heap.size 44 [.slice a n cap, .int .i64 t', .int .i64 E'] ∧ Reads w' g (xs.drop t') t' E' ∧ Below w.heap.size w w')
          (first | assumption | exact sees_start HM4.out HR4.out hb4 | exact sees_later (by assumption) (by assumption))
          (first | (go_at_call 31; refine (rerr_any g _ _ _ _ (by go_split_ands; assumption)).mono ?_; rintro e w' ⟨rfl, rfl⟩) | (go_at_call 32; refine (rat_any g _ _ _ _ (by go_split_ands; assumption)).mono ?_; rintro e w' ⟨rfl, rfl⟩) | (go_at_call 33; refine (rdone_any g xs t' E' _ (by go_split_ands; assumption)).mono ?_; rintro e w' ⟨rfl, rfl⟩) | (go_at_call 34; refine (rdone a n cap xs t' E' _ HX.out).mono ?_; rintro e w' ⟨rfl, hb34⟩))
        go_wp2
        go_roundw
        case rel => exact ⟨k + 1, t', E', by omega, by omega, by go_num, by omega, by go_split_ands; assumption, by go_split_ands; assumption, by go_split_ands; assumption⟩
        case measure => simp [intOf]; omega
      by_cases hK1 : K1 = 1
      · subst hK1
        have KN := hide (rup a n cap xs t E N1 5 _ (hi.below hbw1) HX.out hb (by omega) (by omega) htn hN64)
        have KR := hide (fun W (h : Reads W g (xs.drop t) t E) => upto_any g xs t E N1 W h hb hxl htx hN64)
        have hT := uAt_le xs t E N1 hb htx
        rw [HX.out] at hT
        generalize uAt xs t E N1 = t' at *
        generalize uEr xs t E N1 5 = E' at *
        generalize uVal xs t E N1 = V at *
        go_wp2_with fail
        refine KN.out.mono ?_
        rintro e w2 ⟨rfl, hb2⟩
        have HM2 := hide (HM1.out.later hb2)
        have HR2 := hide (HR1.out.later hb2)
        have hbw2 := hbw1.trans (hb2.mono hbw1.size)
        have q0 : w2.cell? ⟨w1.heap.size, 0, none⟩ = some (.slice a n cap) := by simpa using HM2.out.cell 0
        have q1 : w2.cell? ⟨w1.heap.size, 1, none⟩ = some (.int .i64 t) := by simpa using HM2.out.cell 1
        have q2 : w2.cell? ⟨w1.heap.size, 2, none⟩ = some (.int .i64 E) := by simpa using HM2.out.cell 2
        have f0 := HM2.out.frozen 0
        have f1 := HM2.out.frozen 1
        have f2 := HM2.out.frozen 2
        have hMlt := HM2.out.lt
        have x1 : w2.cell? ⟨wr.heap.size, 1, none⟩ = some (.int .i64 N1) := (hb2.cell (by simp)).trans (by simp)
        have hr2 : wr.heap.size < w2.heap.size := by have := hb2.size; simp at this; omega
        clear m0 m1 m2 hk1 hk2 hb2
        go_wp2_with fail
        refine (KR.out _ (after_store HM2.out (no_u8 _ _ _ _ _) rfl HR2.out hgM hbw2 hMw _ _ _ _).2.1).mono ?_
        rintro e w4 ⟨rfl, ho, hR4⟩
        have HR4 := hide hR4
        have HM4 := hide ((after_store HM2.out (no_u8 _ _ _ _ _) rfl HR2.out hgM hbw2 hMw _ _ _ _).1.far ho (Ne.symm hgM))
        have hb4 := ho.below (after_store HM2.out (no_u8 _ _ _ _ _) rfl HR2.out hgM hbw2 hMw _ _ _ _).2.2 (after_store HM2.out (no_u8 _ _ _ _ _) rfl HR2.out hgM hbw2 hMw _ _ _ _).2.2.size hg
        clear hR4 ho q0 q1 q2 f0 f1 f2 hMlt x1 hr2
        go_wp2_with fail
        go_region_held3 (fun w' => w'.cell? ⟨w1.heap.size, 0, none⟩ = some (.slice a n cap) ∧ w'.cell? ⟨w1.heap.size, 1, none⟩ = some (.int .i64 t') ∧ w'.cell? ⟨w1.heap.size, 2, none⟩ = some (.int .i64 E') ∧ Whole w' w1.heap.size 44 [.slice a n cap, .int .i64 t', .int .i64 E'] ∧ Reads w' g (xs.drop t') t' E' ∧ Below w.heap.size w w')
          (first | assumption | exact sees_start HM4.out HR4.out hb4 | exact sees_later (by assumption) (by assumption))
          (first | (go_at_call 31; refine (rerr_any g _ _ _ _ (by go_split_ands; assumption)).mono ?_; rintro e w' ⟨rfl, rfl⟩) | (go_at_call 32; refine (rat_any g _ _ _ _ (by go_split_ands; assumption)).mono ?_; rintro e w' ⟨rfl, rfl⟩) | (go_at_call 33; refine (rdone_any g xs t' E' _ (by go_split_ands; assumption)).mono ?_; rintro e w' ⟨rfl, rfl⟩) | (go_at_call 34; refine (rdone a n cap xs t' E' _ HX.out).mono ?_; rintro e w' ⟨rfl, hb34⟩))
        go_wp2
        go_roundw
        case rel => exact ⟨k + 1, t', E', by omega, by omega, by go_num, by omega, by go_split_ands; assumption, by go_split_ands; assumption, by go_split_ands; assumption⟩
        case measure => simp [intOf]; omega
      by_cases hK2 : K1 = 2
      · subst hK2
        have KN := hide (rup a n cap xs t E N1 6 _ (hi.below hbw1) HX.out hb (by omega) (by omega) htn hN64)
        have KR := hide (fun W (h : Reads W g (xs.drop t) t E) => some_any g xs t E N1 W h hb hxl htx hN64)
        have hT := uAt_le xs t E N1 hb htx
        rw [HX.out] at hT
        generalize uAt xs t E N1 = t' at *
        generalize uEr xs t E N1 6 = E' at *
        generalize uVal xs t E N1 = V at *
        go_wp2_with fail
        refine KN.out.mono ?_
        rintro e w2 ⟨rfl, hb2⟩
        have HM2 := hide (HM1.out.later hb2)
        have HR2 := hide (HR1.out.later hb2)
        have hbw2 := hbw1.trans (hb2.mono hbw1.size)
        have q0 : w2.cell? ⟨w1.heap.size, 0, none⟩ = some (.slice a n cap) := by simpa using HM2.out.cell 0
        have q1 : w2.cell? ⟨w1.heap.size, 1, none⟩ = some (.int .i64 t) := by simpa using HM2.out.cell 1
        have q2 : w2.cell? ⟨w1.heap.size, 2, none⟩ = some (.int .i64 E) := by simpa using HM2.out.cell 2
        have f0 := HM2.out.frozen 0
        have f1 := HM2.out.frozen 1
        have f2 := HM2.out.frozen 2
        have hMlt := HM2.out.lt
        have x1 : w2.cell? ⟨wr.heap.size, 1, none⟩ = some (.int .i64 N1) := (hb2.cell (by simp)).trans (by simp)
        have hr2 : wr.heap.size < w2.heap.size := by have := hb2.size; simp at this; omega
        clear m0 m1 m2 hk1 hk2 hb2
        go_wp2_with fail
        refine (KR.out _ (after_store HM2.out (no_u8 _ _ _ _ _) rfl HR2.out hgM hbw2 hMw _ _ _ _).2.1).mono ?_
        rintro e w4 ⟨rfl, ho, hR4⟩
        have HR4 := hide hR4
        have HM4 := hide ((after_store HM2.out (no_u8 _ _ _ _ _) rfl HR2.out hgM hbw2 hMw _ _ _ _).1.far ho (Ne.symm hgM))
        have hb4 := ho.below (after_store HM2.out (no_u8 _ _ _ _ _) rfl HR2.out hgM hbw2 hMw _ _ _ _).2.2 (after_store HM2.out (no_u8 _ _ _ _ _) rfl HR2.out hgM hbw2 hMw _ _ _ _).2.2.size hg
        clear hR4 ho q0 q1 q2 f0 f1 f2 hMlt x1 hr2
        go_wp2_with fail
        go_region_held3 (fun w' => w'.cell? ⟨w1.heap.size, 0, none⟩ = some (.slice a n cap) ∧ w'.cell? ⟨w1.heap.size, 1, none⟩ = some (.int .i64 t') ∧ w'.cell? ⟨w1.heap.size, 2, none⟩ = some (.int .i64 E') ∧ Whole w' w1.heap.size 44 [.slice a n cap, .int .i64 t', .int .i64 E'] ∧ Reads w' g (xs.drop t') t' E' ∧ Below w.heap.size w w')
          (first | assumption | exact sees_start HM4.out HR4.out hb4 | exact sees_later (by assumption) (by assumption))
          (first | (go_at_call 31; refine (rerr_any g _ _ _ _ (by go_split_ands; assumption)).mono ?_; rintro e w' ⟨rfl, rfl⟩) | (go_at_call 32; refine (rat_any g _ _ _ _ (by go_split_ands; assumption)).mono ?_; rintro e w' ⟨rfl, rfl⟩) | (go_at_call 33; refine (rdone_any g xs t' E' _ (by go_split_ands; assumption)).mono ?_; rintro e w' ⟨rfl, rfl⟩) | (go_at_call 34; refine (rdone a n cap xs t' E' _ HX.out).mono ?_; rintro e w' ⟨rfl, hb34⟩))
        go_wp2
        go_roundw
        case rel => exact ⟨k + 1, t', E', by omega, by omega, by go_num, by omega, by go_split_ands; assumption, by go_split_ands; assumption, by go_split_ands; assumption⟩
        case measure => simp [intOf]; omega
      by_cases hK3 : K1 = 3
      · subst hK3
        have KN := hide (rtake a n cap xs t E N1 _ (hi.below hbw1) HX.out (by omega) (by omega) htn HN0.out)
        have KR := hide (fun W (h : Reads W g (xs.drop t) t E) => take_any g xs t E N1 W h hxl htx)
        have hT := kAt_le xs t E N1 htx
        have hO := kOut_byte xs t E N1 hb
        rw [HX.out] at hT
        generalize kAt xs t E N1 = t' at *
        generalize kEr xs t E N1 = E' at *
        generalize kOut xs t E N1 = out at *
        go_wp2_with fail
        refine KN.out.mono ?_
        rintro e w2 ⟨A2, c2, rfl, i2, hb2⟩
        have HM2 := hide (HM1.out.later hb2)
        have HR2 := hide (HR1.out.later hb2)
        have hbw2 := hbw1.trans (hb2.mono hbw1.size)
        have q0 : w2.cell? ⟨w1.heap.size, 0, none⟩ = some (.slice a n cap) := by simpa using HM2.out.cell 0
        have q1 : w2.cell? ⟨w1.heap.size, 1, none⟩ = some (.int .i64 t) := by simpa using HM2.out.cell 1
        have q2 : w2.cell? ⟨w1.heap.size, 2, none⟩ = some (.int .i64 E) := by simpa using HM2.out.cell 2
        have f0 := HM2.out.frozen 0
        have f1 := HM2.out.frozen 1
        have f2 := HM2.out.frozen 2
        have hMlt := HM2.out.lt
        have x1 : w2.cell? ⟨wr.heap.size, 1, none⟩ = some (.int .i64 N1) := (hb2.cell (by simp)).trans (by simp)
        have hr2 : wr.heap.size < w2.heap.size := by have := hb2.size; simp at this; omega
        clear m0 m1 m2 hk1 hk2 hb2
        go_wp2_with fail
        refine (KR.out _ (after_store HM2.out (no_u8 _ _ _ _ _) rfl HR2.out hgM hbw2 hMw _ _ _ _).2.1).mono ?_
        rintro e w4 ⟨A4, c4, rfl, i4, ho, hR4⟩
        have i24 := ints_after HM2.out (no_u8 _ _ _ _ _) i2 ho (after_store HM2.out (no_u8 _ _ _ _ _) rfl HR2.out hgM hbw2 hMw _ _ _ _).2.1
        have HR4 := hide hR4
        have HM4 := hide ((after_store HM2.out (no_u8 _ _ _ _ _) rfl HR2.out hgM hbw2 hMw _ _ _ _).1.far ho (Ne.symm hgM))
        have hb4 := ho.below (after_store HM2.out (no_u8 _ _ _ _ _) rfl HR2.out hgM hbw2 hMw _ _ _ _).2.2 (after_store HM2.out (no_u8 _ _ _ _ _) rfl HR2.out hgM hbw2 hMw _ _ _ _).2.2.size hg
        clear hR4 ho q0 q1 q2 f0 f1 f2 hMlt x1 hr2
        go_wp2_with fail
        refine (same_yes A4 A2 _ c4 c2 out _ i4 i24 rfl hO).mono ?_
        rintro e w5 ⟨rfl, rfl⟩
        go_wp2_with fail
        go_region_held3 (fun w' => w'.cell? ⟨w1.heap.size, 0, none⟩ = some (.slice a n cap) ∧ w'.cell? ⟨w1.heap.size, 1, none⟩ = some (.int .i64 t') ∧ w'.cell? ⟨w1.heap.size, 2, none⟩ = some (.int .i64 E') ∧ Whole w' w1.heap.size 44 [.slice a n cap, .int .i64 t', .int .i64 E'] ∧ Reads w' g (xs.drop t') t' E' ∧ Below w.heap.size w w')
          (first | assumption | exact sees_start HM4.out HR4.out hb4 | exact sees_later (by assumption) (by assumption))
          (first | (go_at_call 31; refine (rerr_any g _ _ _ _ (by go_split_ands; assumption)).mono ?_; rintro e w' ⟨rfl, rfl⟩) | (go_at_call 32; refine (rat_any g _ _ _ _ (by go_split_ands; assumption)).mono ?_; rintro e w' ⟨rfl, rfl⟩) | (go_at_call 33; refine (rdone_any g xs t' E' _ (by go_split_ands; assumption)).mono ?_; rintro e w' ⟨rfl, rfl⟩) | (go_at_call 34; refine (rdone a n cap xs t' E' _ HX.out).mono ?_; rintro e w' ⟨rfl, hb34⟩))
        go_wp2
        go_roundw
        case rel => exact ⟨k + 1, t', E', by omega, by omega, by go_num, by omega, by go_split_ands; assumption, by go_split_ands; assumption, by go_split_ands; assumption⟩
        case measure => simp [intOf]; omega
      by_cases hK4 : K1 = 4
      · subst hK4
        have KF := hide (fail_any g (xs.drop t) t E N1 _ HR1.out)
        have KN := hide (fun W => rfail a n cap t E N1 W)
        generalize fEr E N1 = E' at *
        go_wp2_with fail
        refine KF.out.mono ?_
        rintro e w3 ⟨rfl, ho, hR3⟩
        have HR3 := hide hR3
        have HM3 := hide (HM1.out.far ho (Ne.symm hgM))
        have hbw3 := ho.below hbw1 hbw1.size hg
        have y0 : w3.cell? ⟨w1.heap.size, 0, none⟩ = some (.slice a n cap) := by simpa using HM3.out.cell 0
        have y1 : w3.cell? ⟨w1.heap.size, 1, none⟩ = some (.int .i64 t) := by simpa using HM3.out.cell 1
        have y2 : w3.cell? ⟨w1.heap.size, 2, none⟩ = some (.int .i64 E) := by simpa using HM3.out.cell 2
        have x1 : w3.cell? ⟨wr.heap.size, 1, none⟩ = some (.int .i64 N1) := (World.grownBy.cell_far ho _ (by simp) (by simp; omega)).trans (by simp)
        clear m0 m1 m2 hk1 hk2 ho hR3
        go_wp2_with fail
        refine (KN.out _).mono ?_
        rintro e w2 ⟨rfl, hb2⟩
        have HM2 := hide (HM3.out.later hb2)
        have HR2 := hide (HR3.out.later hb2)
        have hbw2 := hbw3.trans (hb2.mono hbw3.size)
        have q0 : w2.cell? ⟨w1.heap.size, 0, none⟩ = some (.slice a n cap) := by simpa using HM2.out.cell 0
        have q1 : w2.cell? ⟨w1.heap.size, 1, none⟩ = some (.int .i64 t) := by simpa using HM2.out.cell 1
        have q2 : w2.cell? ⟨w1.heap.size, 2, none⟩ = some (.int .i64 E) := by simpa using HM2.out.cell 2
        have f0 := HM2.out.frozen 0
        have f1 := HM2.out.frozen 1
        have f2 := HM2.out.frozen 2
        clear y0 y1 y2 x1 hb2
        go_wp2_with fail
        have HR4 := hide (after_store0 HM2.out (no_u8 _ _ _ _ _) rfl HR2.out hgM hbw2 hMw (.slice a n cap) (.int .i64 t) (.int .i64 E')).2.1
        have HM4 := hide (after_store0 HM2.out (no_u8 _ _ _ _ _) rfl HR2.out hgM hbw2 hMw (.slice a n cap) (.int .i64 t) (.int .i64 E')).1
        have hb4 := (after_store0 HM2.out (no_u8 _ _ _ _ _) rfl HR2.out hgM hbw2 hMw (.slice a n cap) (.int .i64 t) (.int .i64 E')).2.2
        clear q0 q1 q2 f0 f1 f2
        generalize ((w2.setCell ⟨w1.heap.size, 0, none⟩ (.slice a n cap)).setCell ⟨w1.heap.size, 1, none⟩ (.int .i64 t)).setCell ⟨w1.heap.size, 2, none⟩ (.int .i64 E') = w4 at *
        go_region_held3 (fun w' => w'.cell? ⟨w1.heap.size, 0, none⟩ = some (.slice a n cap) ∧ w'.cell? ⟨w1.heap.size, 1, none⟩ = some (.int .i64 t) ∧ w'.cell? ⟨w1.heap.size, 2, none⟩ = some (.int .i64 E') ∧ Whole w' w1.heap.size 44 [.slice a n cap, .int .i64 t, .int .i64 E'] ∧ Reads w' g (xs.drop t) t E' ∧ Below w.heap.size w w')
          (first | assumption | exact sees_start HM4.out HR4.out hb4 | exact sees_later (by assumption) (by assumption))
          (first | (go_at_call 31; refine (rerr_any g _ _ _ _ (by go_split_ands; assumption)).mono ?_; rintro e w' ⟨rfl, rfl⟩) | (go_at_call 32; refine (rat_any g _ _ _ _ (by go_split_ands; assumption)).mono ?_; rintro e w' ⟨rfl, rfl⟩) | (go_at_call 33; refine (rdone_any g xs t E' _ (by go_split_ands; assumption)).mono ?_; rintro e w' ⟨rfl, rfl⟩) | (go_at_call 34; refine (rdone a n cap xs t E' _ HX.out).mono ?_; rintro e w' ⟨rfl, hb34⟩))
        go_wp2
        go_roundw
        case rel => exact ⟨k + 1, t, E', by omega, by omega, by go_num, by omega, by go_split_ands; assumption, by go_split_ands; assumption, by go_split_ands; assumption⟩
        case measure => simp [intOf]; omega
      · have e0 : (K1 == 0) = false := by simpa using hK0
        have e1 : (K1 == 1) = false := by simpa using hK1
        have e2 : (K1 == 2) = false := by simpa using hK2
        have e3 : (K1 == 3) = false := by simpa using hK3
        have e4 : (K1 == 4) = false := by simpa using hK4
        clear hK0 hK1 hK2 hK3 hK4
        go_wp2_with fail
        clear hk1 hk2 m0 m1 m2
        generalize wr.alloc (.cells #[.int .i64 K1, .int .i64 N1] 46) = wq at *
        go_region_held3 (fun w' => w'.cell? ⟨w1.heap.size, 0, none⟩ = some (.slice a n cap) ∧ w'.cell? ⟨w1.heap.size, 1, none⟩ = some (.int .i64 t) ∧ w'.cell? ⟨w1.heap.size, 2, none⟩ = some (.int .i64 E) ∧ Whole w' w1.heap.size 44 [.slice a n cap, .int .i64 t, .int .i64 E] ∧ Reads w' g (xs.drop t) t E ∧ Below w.heap.size w w')
          (first | assumption | exact sees_start HM1.out HR1.out hbw1 | exact sees_later (by assumption) (by assumption))
          (first | (go_at_call 31; refine (rerr_any g _ _ _ _ (by go_split_ands; assumption)).mono ?_; rintro e w' ⟨rfl, rfl⟩) | (go_at_call 32; refine (rat_any g _ _ _ _ (by go_split_ands; assumption)).mono ?_; rintro e w' ⟨rfl, rfl⟩) | (go_at_call 33; refine (rdone_any g xs t E _ (by go_split_ands; assumption)).mono ?_; rintro e w' ⟨rfl, rfl⟩) | (go_at_call 34; refine (rdone a n cap xs t E _ HX.out).mono ?_; rintro e w' ⟨rfl, hb34⟩))
        go_wp2
        go_roundw
        case rel => exact ⟨k + 1, t, E, by omega, by omega, by go_num, by omega, by go_split_ands; assumption, by go_split_ands; assumption, by go_split_ands; assumption⟩
        case measure => simp [intOf]; omega
    · clear hacts
      by_cases hkl2 : k < lenA
      · have hd40 : decide ((k : Int) < 40) = false := decide_eq_false (by omega)
        go_wp2_with fail
        refine (known_any _).mono ?_
        rintro e w2 ⟨rfl, hb2⟩
        go_wp2
        go_ret
        exact ⟨rfl, hbw.trans (hb2.mono hbw.size)⟩
      · have hdl : decide (k < lenA) = false := decide_eq_false (by omega)
        go_wp2_with fail
        refine (known_any _).mono ?_
        rintro e w2 ⟨rfl, hb2⟩
        go_wp2
        go_ret
        exact ⟨rfl, hbw.trans (hb2.mono hbw.size)⟩
end Go.Proofs.Ytllhhadhogbcdaa
