/-
  The document's reader, more: Up, Take.
-/
import Derived.Test.YtllhhadhogbcdaaRdr3
namespace Go.Proofs.Ytllhhadhogbcdaa
open Go.ChangeShapes Go.WideShapes Go.ChangeAt Go.RowKit

theorem nVal_bd (xs : List Int) (t : Nat) (E : Int) (hb : Byte xs) : 0 ≤ nVal xs t E ∧ nVal xs t E < 18446744073709551616 ∧ (nEr xs t E ≠ 0 → nVal xs t E = 0) := by
  unfold nVal nEr
  by_cases hE : E = 0
  · subst hE
    rcases rd_cases (xs.drop t) (byte_drop hb t) with hr | hr | ⟨N, n, hr, hN, hn, _⟩
    · simp [hr]
    · simp [hr]
    · simp [hr]; omega
  · simp [hE]

/-- What a call that makes new blocks leaves of two blocks of three cells that were made ahead of it. -/
structure Two (s t : TypeId) (w w1 : World) (x0 x1 x2 y0 y1 y2 : Value) : Prop where
  a0 : w1.cell? ⟨w.heap.size, 0, none⟩ = some x0
  a1 : w1.cell? ⟨w.heap.size, 1, none⟩ = some x1
  a2 : w1.cell? ⟨w.heap.size, 2, none⟩ = some x2
  b0 : w1.cell? ⟨w.heap.size + 1, 0, none⟩ = some y0
  b1 : w1.cell? ⟨w.heap.size + 1, 1, none⟩ = some y1
  b2 : w1.cell? ⟨w.heap.size + 1, 2, none⟩ = some y2
  fa : ∀ i, w1.frozen? ⟨w.heap.size, i, none⟩ = false
  fb : ∀ i, w1.frozen? ⟨w.heap.size + 1, i, none⟩ = false
  z : w.heap.size + 1 < w1.heap.size
  z0 : w.heap.size < w1.heap.size
  wa : Whole w1 w.heap.size s [x0, x1, x2]
  wb : Whole w1 (w.heap.size + 1) t [y0, y1, y2]
theorem two_mk {w w1 : World} {x0 x1 x2 y0 y1 y2 : Value} {s t : TypeId}
    (hb : Below ((w.alloc (.cells #[x0, x1, x2] s)).alloc (.cells #[y0, y1, y2] t)).heap.size ((w.alloc (.cells #[x0, x1, x2] s)).alloc (.cells #[y0, y1, y2] t)) w1) : Two s t w w1 x0 x1 x2 y0 y1 y2 := by
  have h0 : Whole w1 w.heap.size s [x0, x1, x2] := ((Whole.new w s [x0, x1, x2]).alloc (.cells #[y0, y1, y2] t)).later hb
  have h1 : Whole w1 (w.heap.size + 1) t [y0, y1, y2] := by
    have := (Whole.new (w.alloc (.cells #[x0, x1, x2] s)) t [y0, y1, y2]).later hb
    simpa using this
  exact ⟨by simpa using h0.cell 0, by simpa using h0.cell 1, by simpa using h0.cell 2, by simpa using h1.cell 0, by simpa using h1.cell 1, by simpa using h1.cell 2, h0.frozen, h1.frozen, h1.lt, h0.lt, h0, h1⟩

theorem two_of (w w1 : World) (hb : Below w.heap.size w w1) (x y : Obj) : Below w.heap.size w ((w1.alloc x).alloc y) := (hb.alloc hb.size x).alloc (by have := hb.size; simp; omega) y

set_option maxHeartbeats 2000000 in
theorem rup (a : Option Addr) (n c : Nat) (xs : List Int) (t : Nat) (E most er : Int) (w : World) (hi : Ints .u8 w a xs) (hl : xs.length = n) (hb : Byte xs) (hn : n ≤ 1000) (hc : n ≤ c) (ht : t ≤ n) (m1 : most ≤ 9223372036854775807) :
    Calls Try.prog 24 #[.agg #[.slice a n c, .int .i64 t, .int .i64 E], .int .i64 most, .int .i64 er] w fun e w' =>
      e = .returned (.tuple #[.agg #[.slice a n c, .int .i64 (uAt xs t E most), .int .i64 (uEr xs t E most er)], .int .i64 (uVal xs t E most)]) ∧ Below w.heap.size w w' := by
  have hbl := below2 w (.cells #[.slice a n c, .int .i64 t, .int .i64 E] 44) (.cells #[.slice none 0 0, .int .i64 0, .int .i64 0] 44)
  have KEY := hide (rnumber a n c xs t E _ (hi.below hbl) hl hb hn hc ht)
  obtain ⟨v0, v1, v2⟩ := nVal_bd xs t E hb
  unfold uAt uEr uVal
  generalize nAt xs t E = T at *
  generalize nEr xs t E = X at *
  generalize nVal xs t E = V at *
  clear hi hl hb
  by_cases hX : X = 0
  · subst hX
    clear v2
    by_cases h0 : most < 0
    · have ho : over most V = true := by simp [over, h0]
      simp only [ho, and_self, if_true]
      have h0' : decide (most < 0) = true := by simpa using h0
      clear ho
      go_enter Try.func24, Try.ntmps24
      go_wp2_with fail
      refine KEY.out.mono ?_
      rintro e w1 ⟨rfl, hb1⟩
      obtain ⟨a0, a1, a2, b0, b1, b2, fa, fb, z, z0, _, _⟩ := two_mk hb1
      have hbw1 : Below w.heap.size w w1 := hbl.trans (hb1.mono hbl.size)
      have fa2 := fa 2
      have fb0 := fb 0
      have fb1 := fb 1
      have fb2 := fb 2
      clear fa fb
      go_wp2
      exact bodyPost_ret (v := .tuple #[.agg #[.slice a n c, .int .i64 t, .int .i64 er], .int .i64 0]) (by simp [results, Try.results24, go_sem, *]) rfl ⟨rfl, (by repeat (first | exact hbw1 | refine Below.alloc ?_ (by simp; omega) _ | refine Below.setCell ?_ (by simp) _))⟩
    · have h0' : decide (most < 0) = false := by simpa using h0
      by_cases hV : most < V
      · have ho : over most V = true := by simp [over, hV]
        simp only [ho, and_self, if_true]
        clear ho
        go_enter Try.func24, Try.ntmps24
        go_wp2_with fail
        refine KEY.out.mono ?_
        rintro e w1 ⟨rfl, hb1⟩
        obtain ⟨a0, a1, a2, b0, b1, b2, fa, fb, z, z0, _, _⟩ := two_mk hb1
        have hbw1 : Below w.heap.size w w1 := hbl.trans (hb1.mono hbl.size)
        have fa2 := fa 2
        have fb0 := fb 0
        have fb1 := fb 1
        have fb2 := fb 2
        clear fa fb
        go_wp2
        exact bodyPost_ret (v := .tuple #[.agg #[.slice a n c, .int .i64 t, .int .i64 er], .int .i64 0]) (by simp [results, Try.results24, go_sem, *]) rfl ⟨rfl, (by repeat (first | exact hbw1 | refine Below.alloc ?_ (by simp; omega) _ | refine Below.setCell ?_ (by simp) _))⟩
      · have ho : over most V = false := by simp [over]; omega
        simp only [ho, Bool.false_eq_true, and_false, if_false]
        have hV' : decide (most < V) = false := by simpa using hV
        have hV2 : V ≤ 9223372036854775807 := by omega
        clear ho
        go_enter Try.func24, Try.ntmps24
        go_wp2_with fail
        refine KEY.out.mono ?_
        rintro e w1 ⟨rfl, hb1⟩
        obtain ⟨a0, a1, a2, b0, b1, b2, fa, fb, z, z0, _, _⟩ := two_mk hb1
        have hbw1 : Below w.heap.size w w1 := hbl.trans (hb1.mono hbl.size)
        have fa2 := fa 2
        have fb0 := fb 0
        have fb1 := fb 1
        have fb2 := fb 2
        clear fa fb
        go_wp2
        exact bodyPost_ret (v := .tuple #[.agg #[.slice a n c, .int .i64 T, .int .i64 0], .int .i64 V]) (by simp [results, Try.results24, go_sem, *]) rfl ⟨rfl, (by repeat (first | exact hbw1 | refine Below.alloc ?_ (by simp; omega) _ | refine Below.setCell ?_ (by simp) _))⟩
  · obtain rfl : V = 0 := v2 hX
    have hX' : (X == 0) = false := by simpa using hX
    simp only [hX, false_and, if_false]
    clear hX v2
    go_enter Try.func24, Try.ntmps24
    go_wp2_with fail
    refine KEY.out.mono ?_
    rintro e w1 ⟨rfl, hb1⟩
    obtain ⟨a0, a1, a2, b0, b1, b2, fa, fb, z, z0, _, _⟩ := two_mk hb1
    have hbw1 : Below w.heap.size w w1 := hbl.trans (hb1.mono hbl.size)
    have fa2 := fa 2
    have fb0 := fb 0
    have fb1 := fb 1
    have fb2 := fb 2
    clear fa fb
    go_wp2
    exact bodyPost_ret (v := .tuple #[.agg #[.slice a n c, .int .i64 T, .int .i64 X], .int .i64 0]) (by simp [results, Try.results24, go_sem, *]) rfl ⟨rfl, (by repeat (first | exact hbw1 | refine Below.alloc ?_ (by simp; omega) _ | refine Below.setCell ?_ (by simp) _))⟩

end Go.Proofs.Ytllhhadhogbcdaa
