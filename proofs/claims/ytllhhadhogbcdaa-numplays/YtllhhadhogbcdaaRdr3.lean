/-
  The contract of the reader's Take; the document's reader (Number, Up, Take, Fail, Done).
-/
import Derived.Test.YtllhhadhogbcdaaRdr2
namespace Go.Proofs.Ytllhhadhogbcdaa
open Go.ChangeShapes Go.WideShapes Go.ChangeAt Go.RowKit

def fits (xs : List Int) (t : Nat) (n : Int) : Bool := decide (0 ≤ n ∧ n ≤ (xs.length : Int) - (t : Int))
def kAt (xs : List Int) (t : Nat) (E n : Int) : Nat := if E = 0 ∧ fits xs t n = true then t + n.toNat else t
def kEr (xs : List Int) (t : Nat) (E n : Int) : Int := if E = 0 ∧ fits xs t n = false then 4 else E
def kOut (xs : List Int) (t : Nat) (E n : Int) : List Int := if E = 0 ∧ fits xs t n = true then (xs.drop t).take n.toNat else []

/-- What Take leaves. -/
def Takes (g : Nat) (w : World) (out bs : List Int) (pl er : Int) (e : Ending) (w' : World) : Prop :=
  ∃ A c, e = .returned (.slice A out.length c) ∧ Ints .u8 w' A out ∧ Only g w w' ∧ Reads w' g bs pl er

set_option maxHeartbeats 1000000 in
theorem take_ok (g : Nat) (bs : List Int) (pl : Int) (m : Nat) (w : World) (h : Reads w g bs pl 0) (hl : bs.length ≤ 1000) (hm : m ≤ bs.length) (h0 : 0 ≤ pl) (h1 : pl ≤ 1000) :
    Calls Try.prog 28 #[.pointer (some ⟨g, 0, none⟩), .int .i64 m] w (Takes g w (bs.take m) (bs.drop m) (pl + m) 0) := by
  obtain ⟨A, c, c0, c1, c2, f0, f1, f2, hi, hc, hA⟩ := reads_cells h
  have H := hide h
  have HA := hide hA
  clear h hA
  have hmc : m ≤ c := by omega
  have HLT : Hid ((bs.take m).length = m) := by unfold Hid; rw [List.length_take]; omega
  have hdec : decide (bs.length < m) = false := decide_eq_false (by omega)
  have hneg : decide ((m : Int) < 0) = false := decide_eq_false (by omega)
  go_enter Try.func28, Try.ntmps28
  go_wp2_with fail
  refine (stopped_no g _ _ _ H.out).mono ?_
  rintro e w' ⟨rfl, rfl⟩
  go_wp2_with fail
  refine (clone_any A m c (bs.take m) w (hi.take m) HLT.out HA.out (by omega)).mono ?_
  rintro e w1 ⟨v, rfl, hv⟩
  obtain ⟨A', c', rfl, hi', hc', hA'⟩ := hv.form
  have H1 := hide (H.out.later hv.bel)
  go_wp2_with fail
  refine (skip_any g _ _ _ m w1 H1.out hm (by omega) (by omega) (by omega)).mono ?_
  rintro e w2 ⟨rfl, ho, hr⟩
  go_wp2
  go_ret
  obtain ⟨A1, c1, hw1, _⟩ := H1.out.ex
  exact ⟨A', c', by rw [HLT.out]; rfl, ho.ints hi' hw1 (no_u8 _ _ _ _ _), (Only.of_below hv.bel).trans ho, hr⟩

set_option maxHeartbeats 1000000 in
theorem take_bad (g : Nat) (bs : List Int) (pl n : Int) (w : World) (h : Reads w g bs pl 0) (hn : n < 0 ∨ (bs.length : Int) < n) :
    Calls Try.prog 28 #[.pointer (some ⟨g, 0, none⟩), .int .i64 n] w (Takes g w [] bs pl 4) := by
  obtain ⟨A, c, c0, c1, c2, f0, f1, f2, hi, hc, hA⟩ := reads_cells h
  have H := hide h
  clear h hA
  by_cases hn0 : n < 0
  · have hneg : decide (n < 0) = true := by simpa using hn0
    clear hn
    go_enter Try.func28, Try.ntmps28
    go_wp2_with fail
    refine (stopped_no g _ _ _ H.out).mono ?_
    rintro e w' ⟨rfl, rfl⟩
    go_wp2
    go_ret
    exact ⟨none, 0, rfl, .nil, reads_fail H.out⟩
  · have hn2 : (bs.length : Int) < n := by omega
    have hdec : decide ((bs.length : Int) < n) = true := by simpa using hn2
    have hneg : decide (n < 0) = false := by simpa using hn0
    clear hn hn0 hn2
    go_enter Try.func28, Try.ntmps28
    go_wp2_with fail
    refine (stopped_no g _ _ _ H.out).mono ?_
    rintro e w' ⟨rfl, rfl⟩
    go_wp2
    go_ret
    exact ⟨none, 0, rfl, .nil, reads_fail H.out⟩

set_option maxHeartbeats 1000000 in
theorem take_stop (g : Nat) (bs : List Int) (pl E n : Int) (w : World) (h : Reads w g bs pl E) (hE : E ≠ 0) :
    Calls Try.prog 28 #[.pointer (some ⟨g, 0, none⟩), .int .i64 n] w (Takes g w [] bs pl E) := by
  have H := hide h
  have HE := hide hE
  clear h hE
  go_enter Try.func28, Try.ntmps28
  go_wp2_with fail
  refine (stopped_yes g _ _ E _ H.out HE.out).mono ?_
  rintro e w' ⟨rfl, rfl⟩
  go_wp2
  go_ret
  exact ⟨none, 0, rfl, .nil, Only.refl, H.out⟩

theorem take_any (g : Nat) (xs : List Int) (t : Nat) (E n : Int) (w : World) (h : Reads w g (xs.drop t) t E) (hl : xs.length ≤ 1000) (ht : t ≤ xs.length) :
    Calls Try.prog 28 #[.pointer (some ⟨g, 0, none⟩), .int .i64 n] w (Takes g w (kOut xs t E n) (xs.drop (kAt xs t E n)) (kAt xs t E n) (kEr xs t E n)) := by
  have hlen : (xs.drop t).length = xs.length - t := List.length_drop
  unfold kOut kAt kEr
  by_cases hE : E = 0
  · subst hE
    by_cases hf : fits xs t n = true
    · have hf' : 0 ≤ n ∧ n ≤ (xs.length : Int) - (t : Int) := by simpa [fits] using hf
      obtain ⟨m, rfl⟩ := Int.eq_ofNat_of_zero_le hf'.1
      have := take_ok g (xs.drop t) t m w h (by omega) (by omega) (by omega) (by omega)
      simpa [hf, List.drop_drop] using this
    · have hf' : ¬ (0 ≤ n ∧ n ≤ (xs.length : Int) - (t : Int)) := by simpa [fits] using hf
      have hf2 : fits xs t n = false := by simpa using hf
      have := take_bad g (xs.drop t) t n w h (by omega)
      simpa [hf2] using this
  · have := take_stop g (xs.drop t) t E n w h hE
    simpa [hE] using this

/-! The document's reader: a struct of the bytes, the place, the error, handed in and out by value. -/
def R (a : Option Addr) (n c : Nat) (t E : Int) : Value := .agg #[.slice a n c, .int .i64 t, .int .i64 E]

set_option maxHeartbeats 1000000 in
theorem rdone (a : Option Addr) (n c : Nat) (xs : List Int) (t : Nat) (E : Int) (w : World) (hl : xs.length = n) :
    Calls Try.prog 34 #[.agg #[.slice a n c, .int .i64 t, .int .i64 E]] w fun e w' => e = .returned (.int .i64 (dVal xs t E)) ∧ Below w.heap.size w w' := by
  subst hl
  unfold dVal
  by_cases hE : E = 0
  · subst hE
    by_cases ht : t < xs.length
    · simp only [ht, and_self, if_true]
      go_enter Try.func34, Try.ntmps34
      go_wp2
      go_ret
      exact ⟨rfl, (Below.refl _ _).alloc (Nat.le_refl _) _⟩
    · have ht' : decide (t < xs.length) = false := by simpa using ht
      simp only [ht, and_false, if_false]
      go_enter Try.func34, Try.ntmps34
      go_wp2
      go_ret
      exact ⟨rfl, (Below.refl _ _).alloc (Nat.le_refl _) _⟩
  · have hE' : (E == 0) = false := by simpa using hE
    simp only [hE, false_and, if_false]
    clear hE
    go_enter Try.func34, Try.ntmps34
    go_wp2
    go_ret
    exact ⟨rfl, (Below.refl _ _).alloc (Nat.le_refl _) _⟩

theorem below2 (w : World) (x y : Obj) : Below w.heap.size w ((w.alloc x).alloc y) := ((Below.refl _ _).alloc (Nat.le_refl _) _).alloc (by simp) _

set_option maxHeartbeats 1000000 in
theorem rfail (a : Option Addr) (n c : Nat) (t : Nat) (E x : Int) (w : World) :
    Calls Try.prog 30 #[.agg #[.slice a n c, .int .i64 t, .int .i64 E], .int .i64 x] w fun e w' => e = .returned (.agg #[.slice a n c, .int .i64 t, .int .i64 (fEr E x)]) ∧ Below w.heap.size w w' := by
  unfold fEr
  by_cases hE : E = 0
  · subst hE
    go_enter Try.func30, Try.ntmps30
    go_wp2
    exact bodyPost_ret (v := .agg #[.slice a n c, .int .i64 t, .int .i64 x]) (by simp [results, Try.results30, go_sem]) rfl ⟨rfl, below2 w _ _⟩
  · have hE' : (E == 0) = false := by simpa using hE
    simp only [hE, if_false]
    clear hE
    go_enter Try.func30, Try.ntmps30
    go_wp2
    exact bodyPost_ret (v := .agg #[.slice a n c, .int .i64 t, .int .i64 E]) (by simp [results, Try.results30, go_sem]) rfl ⟨rfl, below2 w _ _⟩

theorem rd_some (xs : List Int) (t : Nat) (hb : Byte xs) : ∃ (N : Int) (n : Nat) (er : Int), rd 0 0 (xs.drop t) = (N, (n : Int), er) ∧ n ≤ xs.length - t := by
  rcases rd_cases (xs.drop t) (byte_drop hb t) with hr | hr | ⟨N, n, hr, _, hn, _⟩
  · exact ⟨0, 0, 3, hr, Nat.zero_le _⟩
  · exact ⟨0, 0, 4, hr, Nat.zero_le _⟩
  · exact ⟨N, n, 0, hr, by rwa [List.length_drop] at hn⟩

set_option maxHeartbeats 1000000 in
theorem rnumber (a : Option Addr) (n c : Nat) (xs : List Int) (t : Nat) (E : Int) (w : World) (hi : Ints .u8 w a xs) (hl : xs.length = n) (hb : Byte xs) (hn : n ≤ 1000) (hc : n ≤ c) (ht : t ≤ n) :
    Calls Try.prog 22 #[.agg #[.slice a n c, .int .i64 t, .int .i64 E]] w fun e w' =>
      e = .returned (.tuple #[.agg #[.slice a n c, .int .i64 (nAt xs t E), .int .i64 (nEr xs t E)], .int .u64 (nVal xs t E)]) ∧ Below w.heap.size w w' := by
  unfold nAt nEr nVal
  by_cases hE : E = 0
  · subst hE
    obtain ⟨N, k, er, hr, hk⟩ := rd_some xs t hb
    have HR := hide hr
    have HL := hide hl
    have hkn : k ≤ n := by omega
    have hcut := (hi.alloc (.cells #[.slice a n c, .int .i64 t, .int .i64 0] 44)).alloc (.cells #[.slice none 0 0, .int .i64 0, .int .i64 0] 44)
    have hd : (xs.drop t).length = n - t := by rw [List.length_drop, hl]
    have HD := hide hd
    simp only [if_true, hr, Int.toNat_natCast]
    clear hr hl hd hk hi
    by_cases hct : c = t
    · subst hct
      have HR' : Hid (rd 0 0 [] = (N, (k : Int), er)) := by have := HR.out; rwa [List.drop_eq_nil_of_le (by rw [HL.out]; omega)] at this
      go_enter Try.func22, Try.ntmps22
      go_wp2_with fail
      refine (rread_any a 0 0 [] _ .nil rfl (by omega) (fun x hx => by cases hx)).mono ?_
      rintro e w' ⟨rfl, rfl⟩
      rw [HR'.out]
      go_wp2
      exact bodyPost_ret (v := .tuple #[.agg #[.slice a n c, .int .i64 ((c : Int) + (k : Int)), .int .i64 er], .int .u64 N]) (by simp [results, Try.results22, go_sem]) rfl ⟨rfl, below2 w _ _⟩
    · go_enter Try.func22, Try.ntmps22
      go_wp2_with fail
      refine (rread_any _ _ _ (xs.drop t) _ (hcut.drop t) HD.out (by omega) (byte_drop hb t)).mono ?_
      rintro e w' ⟨rfl, rfl⟩
      rw [HR.out]
      go_wp2
      exact bodyPost_ret (v := .tuple #[.agg #[.slice a n c, .int .i64 ((t : Int) + (k : Int)), .int .i64 er], .int .u64 N]) (by simp [results, Try.results22, go_sem]) rfl ⟨rfl, below2 w _ _⟩
  · have hE' : (E != 0) = true := by simpa using hE
    simp only [hE, if_false]
    clear hE hi hl hb
    go_enter Try.func22, Try.ntmps22
    go_wp2
    exact bodyPost_ret (v := .tuple #[.agg #[.slice a n c, .int .i64 t, .int .i64 E], .int .u64 0]) (by simp [results, Try.results22, go_sem]) rfl ⟨rfl, below2 w _ _⟩
end Go.Proofs.Ytllhhadhogbcdaa
