/-
  Contracts of the reader's methods, more: Upto, Some, Take, Fail, Err, At, Done.
-/
import Derived.Test.YtllhhadhogbcdaaRdr
namespace Go.Proofs.Ytllhhadhogbcdaa
open Go.ChangeShapes Go.WideShapes Go.ChangeAt Go.RowKit

/-- A reader is there still, where two blocks more have been made. -/
theorem Reads.later {w w' : World} {g : Nat} {bs : List Int} {pl er : Int} (h : Reads w g bs pl er) (hb : Below w.heap.size w w') : Reads w' g bs pl er := by
  obtain ⟨A, c, hw, hi, hc, hA⟩ := h.ex
  exact ⟨A, c, hw.later hb, hi.below hb, hc, hA⟩
theorem Reads.far {w w' : World} {g g' : Nat} {bs : List Int} {pl er : Int} {t : TypeId} {l : List Value} (h : Reads w g bs pl er) (ho : Only g' w w') (hw' : Whole w g' t l) (hl : ∀ x, Value.int .u8 x ∉ l) (hne : g ≠ g') : Reads w' g bs pl er := by
  obtain ⟨A, c, hw, hi, hc, hA⟩ := h.ex
  exact ⟨A, c, hw.far ho hne, ho.ints hi hw' hl, hc, hA⟩

/-- 'next' behind a bound. -/
theorem next_above (g p q : Nat) (xs : List Int) (t : Nat) (E most er : Int) (w : World) (h : Reads w g (xs.drop t) t E) (hb : Byte xs) (hl : xs.length ≤ 1000) (ht : t ≤ xs.length)
    (hp : w.cell? ⟨p, 0, none⟩ = some (.int .i64 most)) (hq : w.cell? ⟨q, 0, none⟩ = some (.int .i64 er)) (m1 : most ≤ 9223372036854775807) (he : er ≠ 0) :
    Calls Try.prog 39 #[.pointer (some ⟨g, 0, none⟩), .func (.func 44) #[] #[.pointer (some ⟨p, 0, none⟩), .pointer (some ⟨q, 0, none⟩)]] w
      (Gives g w (.int .u64 (uVal xs t E most)) (xs.drop (uAt xs t E most)) (uAt xs t E most) (uEr xs t E most er)) := by
  have hd : (xs.drop t).length ≤ 1000 := by rw [List.length_drop]; omega
  unfold uVal uAt uEr nVal nAt nEr
  by_cases hE : E = 0
  · subst hE
    rcases rd_cases (xs.drop t) (byte_drop hb t) with hr | hr | ⟨N, n, hr, hN, hn, _⟩
    · have := next_bad g (xs.drop t) t 3 (.func (.func 44) #[] #[.pointer (some ⟨p, 0, none⟩), .pointer (some ⟨q, 0, none⟩)]) w h (byte_drop hb t) (by omega) hr (by omega)
      simpa [hr] using this
    · have := next_bad g (xs.drop t) t 4 (.func (.func 44) #[] #[.pointer (some ⟨p, 0, none⟩), .pointer (some ⟨q, 0, none⟩)]) w h (byte_drop hb t) (by omega) hr (by omega)
      simpa [hr] using this
    · by_cases ho : most < 0 ∨ most < (N : Int)
      · have := next_over g p q (xs.drop t) t most er N n w h (byte_drop hb t) (by omega) hr hp hq m1 ho he
        simpa [hr, over, ho] using this
      · have := next_under g p q (xs.drop t) t most N n w h (byte_drop hb t) (by omega) hr hn (by omega) (by omega) hp (by omega) m1 (by omega)
        simpa [hr, over, ho, List.drop_drop] using this
  · have := next_stop g (xs.drop t) t E (.func (.func 44) #[] #[.pointer (some ⟨p, 0, none⟩), .pointer (some ⟨q, 0, none⟩)]) w h hE
    simpa [hE] using this

theorem uVal_bd (xs : List Int) (t : Nat) (E most : Int) (hb : Byte xs) (m1 : most ≤ 9223372036854775807) : 0 ≤ uVal xs t E most ∧ uVal xs t E most ≤ 9223372036854775807 := by
  unfold uVal nVal nEr
  by_cases hE : E = 0
  · subst hE
    rcases rd_cases (xs.drop t) (byte_drop hb t) with hr | hr | ⟨N, n, hr, hN, hn, _⟩
    · simp [hr]
    · simp [hr]
    · by_cases ho : most < 0 ∨ most < (N : Int)
      · simp [hr, over, ho]
      · simp [hr, over, ho]; omega
  · simp [hE]

set_option maxHeartbeats 1000000 in
theorem upto_any (g : Nat) (xs : List Int) (t : Nat) (E most : Int) (w : World) (h : Reads w g (xs.drop t) t E) (hb : Byte xs) (hl : xs.length ≤ 1000) (ht : t ≤ xs.length) (m1 : most ≤ 9223372036854775807) :
    Calls Try.prog 25 #[.pointer (some ⟨g, 0, none⟩), .int .i64 most] w (Gives g w (.int .i64 (uVal xs t E most)) (xs.drop (uAt xs t E most)) (uAt xs t E most) (uEr xs t E most 5)) := by
  obtain ⟨v0, v1⟩ := uVal_bd xs t E most hb m1
  have hbl : Below w.heap.size w ((w.alloc (.cells #[.int .i64 most] 3)).alloc (.cells #[.int .i64 5] 28)) := ((Below.refl _ _).alloc (Nat.le_refl _) _).alloc (by simp) _
  have KEY := hide (next_above g w.heap.size (w.heap.size + 1) xs t E most 5 _ (h.later hbl) hb hl ht (by simp) (by simp) m1 (by omega))
  clear h
  generalize uVal xs t E most = V at *
  go_enter Try.func25, Try.ntmps25
  go_wp2_with (go_at_call 41; go_in)
  refine KEY.out.mono ?_
  rintro e w' ⟨rfl, ho, hr⟩
  go_wp2
  go_ret
  exact ⟨rfl, (Only.of_below hbl).trans ho, hr⟩

set_option maxHeartbeats 1000000 in
theorem some_any (g : Nat) (xs : List Int) (t : Nat) (E most : Int) (w : World) (h : Reads w g (xs.drop t) t E) (hb : Byte xs) (hl : xs.length ≤ 1000) (ht : t ≤ xs.length) (m1 : most ≤ 9223372036854775807) :
    Calls Try.prog 26 #[.pointer (some ⟨g, 0, none⟩), .int .i64 most] w (Gives g w (.int .i64 (uVal xs t E most)) (xs.drop (uAt xs t E most)) (uAt xs t E most) (uEr xs t E most 6)) := by
  obtain ⟨v0, v1⟩ := uVal_bd xs t E most hb m1
  have hbl : Below w.heap.size w ((w.alloc (.cells #[.int .i64 most] 3)).alloc (.cells #[.int .i64 6] 28)) := ((Below.refl _ _).alloc (Nat.le_refl _) _).alloc (by simp) _
  have KEY := hide (next_above g w.heap.size (w.heap.size + 1) xs t E most 6 _ (h.later hbl) hb hl ht (by simp) (by simp) m1 (by omega))
  clear h
  generalize uVal xs t E most = V at *
  go_enter Try.func26, Try.ntmps26
  go_wp2_with (go_at_call 41; go_in)
  refine KEY.out.mono ?_
  rintro e w' ⟨rfl, ho, hr⟩
  go_wp2
  go_ret
  exact ⟨rfl, (Only.of_below hbl).trans ho, hr⟩

/-! Fail, Err, At, Done. -/
def fEr (E x : Int) : Int := if E = 0 then x else E
def dVal (xs : List Int) (t : Nat) (E : Int) : Int := if E = 0 ∧ t < xs.length then 3 else E

set_option maxHeartbeats 400000 in
theorem fail_any (g : Nat) (bs : List Int) (pl E x : Int) (w : World) (h : Reads w g bs pl E) :
    Calls Try.prog 29 #[.pointer (some ⟨g, 0, none⟩), .int .i64 x] w (Gives g w (.tuple #[]) bs pl (fEr E x)) := by
  obtain ⟨A, c, c0, c1, c2, f0, f1, f2, hi, hc, hA⟩ := reads_cells h
  have H := hide h
  clear h hA hc hi
  unfold fEr
  by_cases hE : E = 0
  · subst hE
    go_enter Try.func29, Try.ntmps29
    go_wp2_with fail
    refine (stopped_no g bs pl _ H.out).mono ?_
    rintro e w' ⟨rfl, rfl⟩
    go_wp2
    go_end0
    exact ⟨rfl, reads_fail H.out⟩
  · have HE := hide hE
    simp only [hE, if_false]
    clear hE
    go_enter Try.func29, Try.ntmps29
    go_wp2_with fail
    refine (stopped_yes g bs pl E _ H.out HE.out).mono ?_
    rintro e w' ⟨rfl, rfl⟩
    go_wp2
    go_end0
    exact ⟨rfl, Only.refl, H.out⟩

theorem rerr_any (g : Nat) (bs : List Int) (pl E : Int) (w : World) (h : Reads w g bs pl E) : Calls Try.prog 31 #[.pointer (some ⟨g, 0, none⟩)] w fun e w' => e = .returned (.int .i64 E) ∧ w = w' := by
  obtain ⟨A, c, c0, c1, c2, f0, f1, f2, hi, hc, hA⟩ := reads_cells h
  clear h hA hc hi
  go_enter Try.func31, Try.ntmps31
  go_wp2
  go_ret
  exact ⟨rfl, rfl⟩
theorem rat_any (g : Nat) (bs : List Int) (pl E : Int) (w : World) (h : Reads w g bs pl E) : Calls Try.prog 32 #[.pointer (some ⟨g, 0, none⟩)] w fun e w' => e = .returned (.int .i64 pl) ∧ w = w' := by
  obtain ⟨A, c, c0, c1, c2, f0, f1, f2, hi, hc, hA⟩ := reads_cells h
  clear h hA hc hi
  go_enter Try.func32, Try.ntmps32
  go_wp2
  go_ret
  exact ⟨rfl, rfl⟩
theorem rdone_any (g : Nat) (xs : List Int) (t : Nat) (E : Int) (w : World) (h : Reads w g (xs.drop t) t E) : Calls Try.prog 33 #[.pointer (some ⟨g, 0, none⟩)] w fun e w' => e = .returned (.int .i64 (dVal xs t E)) ∧ w = w' := by
  obtain ⟨A, c, c0, c1, c2, f0, f1, f2, hi, hc, hA⟩ := reads_cells h
  have H := hide h
  have hlen : (xs.drop t).length = xs.length - t := List.length_drop
  rw [hlen] at c0
  clear h hA hc hi hlen
  unfold dVal
  by_cases hE : E = 0
  · subst hE
    by_cases ht : t < xs.length
    · have hd : 0 < xs.length - t := by omega
      simp only [ht, and_self, if_true]
      go_enter Try.func33, Try.ntmps33
      go_wp2_with fail
      refine (rerr_any g _ _ _ _ H.out).mono ?_
      rintro e w' ⟨rfl, rfl⟩
      go_wp2
      go_ret
      exact ⟨rfl, rfl⟩
    · have hd : xs.length - t = 0 := by omega
      rw [hd] at c0
      simp only [ht, and_false, if_false]
      clear hd
      go_enter Try.func33, Try.ntmps33
      go_wp2_with fail
      refine (rerr_any g _ _ _ _ H.out).mono ?_
      rintro e w' ⟨rfl, rfl⟩
      go_wp2
      go_ret
      exact ⟨rfl, rfl⟩
  · have hE' : (E != 0) = true := by simpa using hE
    simp only [hE, false_and, if_false]
    clear hE
    go_enter Try.func33, Try.ntmps33
    go_wp2_with fail
    refine (rerr_any g _ _ _ _ H.out).mono ?_
    rintro e w' ⟨rfl, rfl⟩
    go_wp2
    go_ret
    exact ⟨rfl, rfl⟩
end Go.Proofs.Ytllhhadhogbcdaa
