/-
  The document's reader, more: Take.
-/
import Derived.Test.YtllhhadhogbcdaaRdr4
namespace Go.Proofs.Ytllhhadhogbcdaa
open Go.ChangeShapes Go.WideShapes Go.ChangeAt Go.RowKit

/-- What the document's Take leaves. -/
def RTakes (w : World) (s : Value) (out : List Int) (e : Ending) (w' : World) : Prop :=
  ∃ A c, e = .returned (.tuple #[s, .slice A out.length c]) ∧ Ints .u8 w' A out ∧ Below w.heap.size w w'

theorem ints_four {w2 : World} {g0 g1 : Nat} {A : Option Addr} {out : List Int} {x y : List Value} (i2 : Ints .u8 w2 A out) (wa : Whole w2 g0 44 x) (wb : Whole w2 g1 44 y) (hne : g1 ≠ g0)
    (nx : ∀ z, Value.int .u8 z ∉ x) (ny : ∀ z, Value.int .u8 z ∉ y) (u v0 v1 v2 : Value) :
    Ints .u8 ((((w2.setCell ⟨g0, 1, none⟩ u).setCell ⟨g1, 0, none⟩ v0).setCell ⟨g1, 1, none⟩ v1).setCell ⟨g1, 2, none⟩ v2) A out := by
  have o1 : Only g0 w2 (w2.setCell ⟨g0, 1, none⟩ u) := Only.put 1 u
  have i3 := o1.ints i2 wa nx
  have wb3 := wb.far o1 hne
  have o2 : Only g1 (w2.setCell ⟨g0, 1, none⟩ u) ((((w2.setCell ⟨g0, 1, none⟩ u).setCell ⟨g1, 0, none⟩ v0).setCell ⟨g1, 1, none⟩ v1).setCell ⟨g1, 2, none⟩ v2) := ((Only.put 0 v0).trans (Only.put 1 v1)).trans (Only.put 2 v2)
  exact o2.ints i3 wb3 ny
theorem take_facts {w w2 : World} {v2 x0 x1 x2 y0 y1 y2 : Value} {out : List Int} {L : Nat} (hL : out.length = L)
    (h : Own 5 .u8 (w.heap.size + 1 + 1) ((w.alloc (.cells #[x0, x1, x2] 44)).alloc (.cells #[y0, y1, y2] 44)) w2 v2 out) :
    ∃ A2 c2, v2 = .slice A2 L c2 ∧ Ints .u8 w2 A2 out ∧ Two 44 44 w w2 x0 x1 x2 y0 y1 y2 ∧ Below w.heap.size w w2 := by
  subst hL
  obtain ⟨A2, c2, hv2, i2, hc2, hA2⟩ := h.form
  have hsz : ((w.alloc (.cells #[x0, x1, x2] 44)).alloc (.cells #[y0, y1, y2] 44)).heap.size = w.heap.size + 1 + 1 := by simp
  have hb2 := h.bel
  rw [← hsz] at hb2
  have hbl := below2 w (.cells #[x0, x1, x2] 44) (.cells #[y0, y1, y2] 44)
  exact ⟨A2, c2, hv2, i2, two_mk hb2, hbl.trans (hb2.mono hbl.size)⟩

set_option maxHeartbeats 2000000 in
theorem rtake_ok (a : Option Addr) (n c : Nat) (xs : List Int) (t m : Nat) (w : World) (hi : Ints .u8 w a xs) (hl : xs.length = n) (hn : n ≤ 1000) (hc : n ≤ c) (hm : t + m ≤ n) (hA : a = none → c = 0) :
    Calls Try.prog 27 #[.agg #[.slice a n c, .int .i64 t, .int .i64 0], .int .i64 m] w (RTakes w (.agg #[.slice a n c, .int .i64 ((t + m : Nat) : Int), .int .i64 0]) ((xs.drop t).take m)) := by
  have hbl := below2 w (.cells #[.slice a n c, .int .i64 t, .int .i64 0] 44) (.cells #[.slice none 0 0, .int .i64 0, .int .i64 0] 44)
  have hi2 := (hi.below hbl).alloc (.cells #[] 5)
  have ho := Own.empty ((w.alloc (.cells #[.slice a n c, .int .i64 t, .int .i64 0] 44)).alloc (.cells #[.slice none 0 0, .int .i64 0, .int .i64 0] 44)) 5 .u8
  have hsz : ((w.alloc (.cells #[.slice a n c, .int .i64 t, .int .i64 0] 44)).alloc (.cells #[.slice none 0 0, .int .i64 0, .int .i64 0] 44)).heap.size = w.heap.size + 1 + 1 := by simp
  rw [hsz] at ho
  have HLT : Hid (((xs.drop t).take m).length = m) := by unfold Hid; rw [List.length_take, List.length_drop]; omega
  have hdec : decide ((n : Int) - (t : Int) < (m : Int)) = false := decide_eq_false (by omega)
  have hneg : decide ((m : Int) < 0) = false := decide_eq_false (by omega)
  have HL := hide hl
  have HA := hide hA
  clear hA
  have HSZ := hide hsz
  clear hi hl hsz
  by_cases hct : c = t
  · subst hct
    obtain rfl : m = 0 := by omega
    go_enter Try.func27, Try.ntmps27
    go_wp2_with (at_builtin; refine wpList_cat elem23 rfl (.tmp 29) (.tmp 38) rfl rfl rfl ho (ns := (xs.drop c).take 0) .nil (by simp) (fun _ => rfl) (by simp) (by omega) ?_; intro v2 w2 hown2; rw [List.nil_append] at hown2; obtain ⟨A2, c2, rfl, i2, ⟨a0, a1, a2, b0, b1, b2, fa, fb, z, z0, wa, wb⟩, hbw2⟩ := take_facts HLT.out hown2; have fa1 := fa 1; have fb0 := fb 0; have fb1 := fb 1; have fb2 := fb 2; clear fa fb hown2)
    exact bodyPost_ret (v := .tuple #[.agg #[.slice a n c, .int .i64 c, .int .i64 0], .slice A2 0 c2]) (by simp [results, Try.results27, go_sem, *]) rfl
      ⟨A2, c2, by rw [HLT.out]; rfl, ints_four i2 wa wb (by omega) (by intro z; simp) (by intro z; simp) _ _ _ _, (by repeat (first | exact hbw2 | refine Below.setCell ?_ (by simp) _))⟩
  · go_enter Try.func27, Try.ntmps27
    go_wp2_with (at_builtin; refine wpList_cat elem23 rfl (.tmp 29) (.tmp 38) rfl rfl rfl ho ((hi2.drop t).take m) (by rw [HLT.out]; omega) (fun h => by have := HA.out (by simpa using h); omega) (by simp; omega) (by omega) ?_; intro v2 w2 hown2; rw [List.nil_append] at hown2; obtain ⟨A2, c2, rfl, i2, ⟨a0, a1, a2, b0, b1, b2, fa, fb, z, z0, wa, wb⟩, hbw2⟩ := take_facts HLT.out hown2; have fa1 := fa 1; have fb0 := fb 0; have fb1 := fb 1; have fb2 := fb 2; clear fa fb hown2)
    exact bodyPost_ret (v := .tuple #[.agg #[.slice a n c, .int .i64 ((t : Int) + (m : Int)), .int .i64 0], .slice A2 m c2]) (by simp [results, Try.results27, go_sem, *]) rfl
      ⟨A2, c2, by rw [HLT.out]; rfl, ints_four i2 wa wb (by omega) (by intro z; simp) (by intro z; simp) _ _ _ _, (by repeat (first | exact hbw2 | refine Below.setCell ?_ (by simp) _))⟩

set_option maxHeartbeats 2000000 in
theorem rtake_bad (a : Option Addr) (n c : Nat) (t : Nat) (m : Int) (w : World) (hn : n ≤ 1000) (ht : t ≤ n) (hm : m < 0 ∨ (n : Int) - (t : Int) < m) :
    Calls Try.prog 27 #[.agg #[.slice a n c, .int .i64 t, .int .i64 0], .int .i64 m] w (RTakes w (.agg #[.slice a n c, .int .i64 t, .int .i64 4]) []) := by
  by_cases h0 : m < 0
  · have h0' : decide (m < 0) = true := by simpa using h0
    clear hm
    go_enter Try.func27, Try.ntmps27
    go_wp2
    exact bodyPost_ret (v := .tuple #[.agg #[.slice a n c, .int .i64 t, .int .i64 4], .slice none 0 0]) (by simp [results, Try.results27, go_sem]) rfl ⟨none, 0, rfl, .nil, below2 w _ _⟩
  · have h0' : decide (m < 0) = false := by simpa using h0
    have h1 : (n : Int) - (t : Int) < m := by omega
    have h1' : decide ((n : Int) - (t : Int) < m) = true := by simpa using h1
    clear hm h0
    go_enter Try.func27, Try.ntmps27
    go_wp2
    exact bodyPost_ret (v := .tuple #[.agg #[.slice a n c, .int .i64 t, .int .i64 4], .slice none 0 0]) (by simp [results, Try.results27, go_sem]) rfl ⟨none, 0, rfl, .nil, below2 w _ _⟩

set_option maxHeartbeats 2000000 in
theorem rtake_stop (a : Option Addr) (n c : Nat) (t : Nat) (E m : Int) (w : World) (hE : E ≠ 0) :
    Calls Try.prog 27 #[.agg #[.slice a n c, .int .i64 t, .int .i64 E], .int .i64 m] w (RTakes w (.agg #[.slice a n c, .int .i64 t, .int .i64 E]) []) := by
  have hE1 : (E == 0) = false := by simpa using hE
  have hE2 : (E != 0) = true := by simpa using hE
  clear hE
  go_enter Try.func27, Try.ntmps27
  go_wp2
  exact bodyPost_ret (v := .tuple #[.agg #[.slice a n c, .int .i64 t, .int .i64 E], .slice none 0 0]) (by simp [results, Try.results27, go_sem]) rfl ⟨none, 0, rfl, .nil, below2 w _ _⟩

theorem rtake (a : Option Addr) (n c : Nat) (xs : List Int) (t : Nat) (E m : Int) (w : World) (hi : Ints .u8 w a xs) (hl : xs.length = n) (hn : n ≤ 1000) (hc : n ≤ c) (ht : t ≤ n) (hA : a = none → c = 0) :
    Calls Try.prog 27 #[.agg #[.slice a n c, .int .i64 t, .int .i64 E], .int .i64 m] w (RTakes w (.agg #[.slice a n c, .int .i64 (kAt xs t E m), .int .i64 (kEr xs t E m)]) (kOut xs t E m)) := by
  unfold kOut kAt kEr
  by_cases hE : E = 0
  · subst hE
    by_cases hf : fits xs t m = true
    · have hf' : 0 ≤ m ∧ m ≤ (xs.length : Int) - (t : Int) := by simpa [fits] using hf
      obtain ⟨k, rfl⟩ := Int.eq_ofNat_of_zero_le hf'.1
      have := rtake_ok a n c xs t k w hi hl hn hc (by omega) hA
      simpa [hf] using this
    · have hf' : ¬ (0 ≤ m ∧ m ≤ (xs.length : Int) - (t : Int)) := by simpa [fits] using hf
      have hf2 : fits xs t m = false := by simpa using hf
      have := rtake_bad a n c t m w hn ht (by omega)
      simpa [hf2] using this
  · have := rtake_stop a n c t E m w hE
    simpa [hE] using this
end Go.Proofs.Ytllhhadhogbcdaa
