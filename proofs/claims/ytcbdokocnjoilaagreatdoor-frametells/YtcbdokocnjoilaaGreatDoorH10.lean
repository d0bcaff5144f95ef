/-
  Contracts and plain mathematics of BRdr, BRdr2, RnState, RnTake1, RnTake2, RnTake3.
-/
import Derived.Test.YtcbdokocnjoilaaGreatDoorH9
import Derived.Test.YtcbdokocnjoilaaGreatDoorH1
import Derived.Test.YtcbdokocnjoilaaGreatDoorH8
import Derived.Test.YtcbdokocnjoilaaGreatDoorH2
import Derived.Test.YtcbdokocnjoilaaGreatDoorH5
import Derived.Test.YtcbdokocnjoilaaGreatDoorH4
import Derived.BigQuiet
import Derived.Test.YtcbdokocnjoilaaGreatDoorH6
namespace Go.Proofs.YtcbdokocnjoilaaGreatDoor
set_option maxRecDepth 100000
set_option linter.unusedVariables false
set_option maxHeartbeats 8000000
section
open Go.ChangeShapes Go.WideShapes Go.ChangeAt Go.RowKit
/-- A reader at block g: what is left, the place, the error. -/
structure Reads (w : World) (g : Nat) (bs : List Int) (pl er : Int) : Prop where
  ex : ∃ A cap, Whole w g 123 [.slice A bs.length cap, .int .i64 pl, .int .i64 er] ∧ Tk 5 .u8 w A bs ∧ bs.length ≤ cap ∧ (A = none → cap = 0)

theorem stopped_no (g : Nat) (bs : List Int) (pl : Int) (w : World) (h : Reads w g bs pl 0) :
    Calls Tryz.prog 84 #[.pointer (some ⟨g, 0, none⟩)] w fun e w' => e = .returned (.bool false) ∧ w = w' := by
  obtain ⟨A, c, hw, _⟩ := h.ex
  have hc := hw.cell 2
  simp only [List.getElem?_cons_succ, List.getElem?_cons_zero] at hc
  clear h hw
  go_enter Tryz.func84, Tryz.ntmps84
  go_wp2
  go_ret
  exact ⟨rfl, rfl⟩

theorem stopped_yes (g : Nat) (bs : List Int) (pl er : Int) (w : World) (h : Reads w g bs pl er) (he : er ≠ 0) :
    Calls Tryz.prog 84 #[.pointer (some ⟨g, 0, none⟩)] w fun e w' => e = .returned (.bool true) ∧ w = w' := by
  obtain ⟨A, c, hw, _⟩ := h.ex
  have hc := hw.cell 2
  simp only [List.getElem?_cons_succ, List.getElem?_cons_zero] at hc
  have hb : (er != 0) = true := by simpa using he
  clear h hw he
  go_enter Tryz.func84, Tryz.ntmps84
  go_wp2
  go_ret
  exact ⟨rfl, rfl⟩

/-- What is behind a reader's first two cells being set anew. -/
theorem reads_skip {w : World} {g : Nat} {A A' : Option Addr} {n n' c c' : Nat} {pl er pl' : Int} {bs : List Int} (hw : Whole w g 123 [.slice A n c, .int .i64 pl, .int .i64 er])
    (hi : Tk 5 .u8 w A' bs) (hn : n' = bs.length) (hc : n' ≤ c') (hA : A' = none → c' = 0) :
    Only g w ((w.setCell ⟨g, 0, none⟩ (.slice A' n' c')).setCell ⟨g, 1, none⟩ (.int .i64 pl')) ∧ Reads ((w.setCell ⟨g, 0, none⟩ (.slice A' n' c')).setCell ⟨g, 1, none⟩ (.int .i64 pl')) g bs pl' er := by
  subst hn
  have ho : Only g w ((w.setCell ⟨g, 0, none⟩ (.slice A' bs.length c')).setCell ⟨g, 1, none⟩ (.int .i64 pl')) := (Only.put 0 _).trans (Only.put 1 _)
  refine ⟨ho, ⟨A', c', ?_, hi.only ho hw (by decide), hc, hA⟩⟩
  simpa using (hw.put 0 (.slice A' bs.length c')).put 1 (.int .i64 pl')
/-- .. and behind its error being set. -/
theorem reads_fail {w : World} {g : Nat} {pl er x : Int} {bs : List Int} (h : Reads w g bs pl er) : Only g w (w.setCell ⟨g, 2, none⟩ (.int .i64 x)) ∧ Reads (w.setCell ⟨g, 2, none⟩ (.int .i64 x)) g bs pl x := by
  obtain ⟨A, c, hw, hi, hc, hA⟩ := h.ex
  have ho : Only g w (w.setCell ⟨g, 2, none⟩ (.int .i64 x)) := Only.put 2 _
  exact ⟨ho, ⟨A, c, by simpa using hw.put 2 (.int .i64 x), hi.only ho hw (by decide), hc, hA⟩⟩

theorem skip_any (g : Nat) (bs : List Int) (pl er : Int) (n : Nat) (w : World) (h : Reads w g bs pl er) (hn : n ≤ bs.length) (h0 : 0 ≤ pl) (h1 : pl ≤ 1000000) (h2 : bs.length ≤ 1000000) :
    Calls Tryz.prog 86 #[.pointer (some ⟨g, 0, none⟩), .int .i64 n] w fun e w' => e = .returned (.tuple #[]) ∧ Only g w w' ∧ Reads w' g (bs.drop n) (pl + n) er := by
  obtain ⟨A, c, hw, hi, hc, hA⟩ := h.ex
  have c0 := hw.cell 0
  have c1 := hw.cell 1
  have f0 := hw.frozen 0
  have f1 := hw.frozen 1
  simp only [List.getElem?_cons_succ, List.getElem?_cons_zero] at c0 c1
  have hnc : n ≤ c := by omega
  have HA := hide hA
  clear h hA
  by_cases hcn : c = n
  · subst hcn
    go_enter Tryz.func86, Tryz.ntmps86
    go_wp2
    go_end0
    refine ⟨rfl, ?_⟩
    exact reads_skip (bs := bs.drop c) hw (by rw [List.drop_eq_nil_of_le (by omega)]; exact .nil) (by simp; omega) (by omega) (fun _ => rfl)
  · go_enter Tryz.func86, Tryz.ntmps86
    go_wp2
    go_end0
    refine ⟨rfl, ?_⟩
    exact reads_skip (bs := bs.drop n) hw (hi.drop n) (by simp) (by omega) (fun e => by have := HA.out (by simpa using e); omega)

theorem above_under (p q : Nat) (most : Int) (N : Nat) (w : World) (hp : w.cell? ⟨p, 0, none⟩ = some (.int .i64 most))
    (h0 : 0 ≤ most) (h1 : most ≤ 9223372036854775807) (hN : (N : Int) ≤ most) :
    Calls Tryz.prog 98 #[.int .u64 N, .pointer (some ⟨p, 0, none⟩), .pointer (some ⟨q, 0, none⟩)] w fun e w' => e = .returned (.int .i64 0) ∧ w = w' := by
  go_enter Tryz.func98, Tryz.ntmps98
  go_wp2
  go_ret
  exact ⟨rfl, rfl⟩
theorem above_over (p q : Nat) (most er : Int) (N : Nat) (w : World) (hp : w.cell? ⟨p, 0, none⟩ = some (.int .i64 most)) (hq : w.cell? ⟨q, 0, none⟩ = some (.int .i64 er))
    (h1 : most ≤ 9223372036854775807) (hN : most < 0 ∨ most < (N : Int)) :
    Calls Tryz.prog 98 #[.int .u64 N, .pointer (some ⟨p, 0, none⟩), .pointer (some ⟨q, 0, none⟩)] w fun e w' => e = .returned (.int .i64 er) ∧ w = w' := by
  by_cases h0 : most < 0
  · clear hN
    go_enter Tryz.func98, Tryz.ntmps98
    go_wp2
    go_ret
    exact ⟨rfl, rfl⟩
  · have hN' : most < (N : Int) := by omega
    have h0' : 0 ≤ most := by omega
    clear hN h0
    go_enter Tryz.func98, Tryz.ntmps98
    go_wp2
    go_ret
    exact ⟨rfl, rfl⟩

/-- What a reader's call leaves: the value, the reader. -/
def Gives (g : Nat) (w : World) (v : Value) (bs : List Int) (pl er : Int) (e : Ending) (w' : World) : Prop := e = .returned v ∧ Only g w w' ∧ Reads w' g bs pl er

theorem next_stop (g : Nat) (bs : List Int) (pl er : Int) (f : Value) (w : World) (h : Reads w g bs pl er) (he : er ≠ 0) :
    Calls Tryz.prog 63 #[.pointer (some ⟨g, 0, none⟩), f] w (Gives g w (.int .u64 0) bs pl er) := by
  have H := hide h
  have HE := hide he
  clear h he
  go_enter Tryz.func63, Tryz.ntmps63
  go_wp2_with fail
  refine (stopped_yes g bs pl er _ H.out HE.out).mono ?_
  rintro e w' ⟨rfl, rfl⟩
  go_wp2
  go_ret
  exact ⟨rfl, Only.refl, H.out⟩

theorem reads_cells {w : World} {g : Nat} {bs : List Int} {pl er : Int} (h : Reads w g bs pl er) : ∃ A c, w.cell? ⟨g, 0, none⟩ = some (.slice A bs.length c) ∧ w.cell? ⟨g, 1, none⟩ = some (.int .i64 pl) ∧ w.cell? ⟨g, 2, none⟩ = some (.int .i64 er) ∧
    w.frozen? ⟨g, 0, none⟩ = false ∧ w.frozen? ⟨g, 1, none⟩ = false ∧ w.frozen? ⟨g, 2, none⟩ = false ∧ Ints .u8 w A bs ∧ bs.length ≤ c ∧ (A = none → c = 0) := by
  obtain ⟨A, c, hw, hi, hc, hA⟩ := h.ex
  exact ⟨A, c, by simpa using hw.cell 0, by simpa using hw.cell 1, by simpa using hw.cell 2, hw.frozen 0, hw.frozen 1, hw.frozen 2, hi.ints, hc, hA⟩

theorem next_bad (g : Nat) (bs : List Int) (pl x : Int) (f : Value) (w : World) (h : Reads w g bs pl 0) (hb : Byte bs) (hl : bs.length ≤ 1000000) (hr : rd 0 0 bs = (0, 0, x)) (hx : x ≠ 0) :
    Calls Tryz.prog 63 #[.pointer (some ⟨g, 0, none⟩), f] w (Gives g w (.int .u64 0) bs pl x) := by
  obtain ⟨A, c, c0, c1, c2, f0, f1, f2, hi, hc, hA⟩ := reads_cells h
  have H := hide h
  have HR := hide hr
  have hx1 : (x == 0) = false := by simpa using hx
  have hx2 : (x != 0) = true := by simpa using hx
  clear h hr hx hA
  go_enter Tryz.func63, Tryz.ntmps63
  go_wp2_with fail
  refine (stopped_no g bs pl _ H.out).mono ?_
  rintro e w' ⟨rfl, rfl⟩
  go_wp2_with fail
  refine (read_any A _ c bs w hi rfl hl hb).mono ?_
  rintro e w' ⟨rfl, rfl⟩
  rw [HR.out]
  go_wp2
  go_ret
  exact ⟨rfl, reads_fail H.out⟩

theorem number_ok (g : Nat) (bs : List Int) (pl : Int) (N n : Nat) (w : World) (h : Reads w g bs pl 0) (hb : Byte bs) (hl : bs.length ≤ 1000000) (hr : rd 0 0 bs = ((N : Int), (n : Int), 0)) (hn : n ≤ bs.length)
    (h0 : 0 ≤ pl) (h1 : pl ≤ 1000000) : Calls Tryz.prog 63 #[.pointer (some ⟨g, 0, none⟩), .func (.func 64) #[] #[]] w (Gives g w (.int .u64 N) (bs.drop n) (pl + n) 0) := by
  obtain ⟨A, c, c0, c1, c2, f0, f1, f2, hi, hc, hA⟩ := reads_cells h
  have H := hide h
  have HR := hide hr
  clear h hr hA
  go_enter Tryz.func63, Tryz.ntmps63
  go_wp2_with fail
  refine (stopped_no g bs pl _ H.out).mono ?_
  rintro e w' ⟨rfl, rfl⟩
  go_wp2_with fail
  refine (read_any A _ c bs w hi rfl hl hb).mono ?_
  rintro e w' ⟨rfl, rfl⟩
  rw [HR.out]
  go_wp2_with (first | (go_at_call 64; go_in))
  refine (skip_any g bs pl 0 n w H.out hn h0 h1 hl).mono ?_
  rintro e w' ⟨rfl, ho, hr⟩
  go_wp2
  go_ret
  exact ⟨rfl, ho, hr⟩

theorem next_under (g p q : Nat) (bs : List Int) (pl most : Int) (N n : Nat) (w : World) (h : Reads w g bs pl 0) (hb : Byte bs) (hl : bs.length ≤ 1000000) (hr : rd 0 0 bs = ((N : Int), (n : Int), 0)) (hn : n ≤ bs.length)
    (h0 : 0 ≤ pl) (h1 : pl ≤ 1000000) (hp : w.cell? ⟨p, 0, none⟩ = some (.int .i64 most)) (m0 : 0 ≤ most) (m1 : most ≤ 9223372036854775807) (hN : (N : Int) ≤ most) :
    Calls Tryz.prog 63 #[.pointer (some ⟨g, 0, none⟩), .func (.func 98) #[] #[.pointer (some ⟨p, 0, none⟩), .pointer (some ⟨q, 0, none⟩)]] w (Gives g w (.int .u64 N) (bs.drop n) (pl + n) 0) := by
  obtain ⟨A, c, c0, c1, c2, f0, f1, f2, hi, hc, hA⟩ := reads_cells h
  have H := hide h
  have HR := hide hr
  clear h hr hA
  go_enter Tryz.func63, Tryz.ntmps63
  go_wp2_with fail
  refine (stopped_no g bs pl _ H.out).mono ?_
  rintro e w' ⟨rfl, rfl⟩
  go_wp2_with fail
  refine (read_any A _ c bs w hi rfl hl hb).mono ?_
  rintro e w' ⟨rfl, rfl⟩
  rw [HR.out]
  go_wp2_with fail
  refine (above_under p q most N w hp m0 m1 hN).mono ?_
  rintro e w' ⟨rfl, rfl⟩
  go_wp2_with fail
  refine (skip_any g bs pl 0 n w H.out hn h0 h1 hl).mono ?_
  rintro e w' ⟨rfl, ho, hr⟩
  go_wp2
  go_ret
  exact ⟨rfl, ho, hr⟩

theorem next_over (g p q : Nat) (bs : List Int) (pl most er : Int) (N n : Nat) (w : World) (h : Reads w g bs pl 0) (hb : Byte bs) (hl : bs.length ≤ 1000000) (hr : rd 0 0 bs = ((N : Int), (n : Int), 0))
    (hp : w.cell? ⟨p, 0, none⟩ = some (.int .i64 most)) (hq : w.cell? ⟨q, 0, none⟩ = some (.int .i64 er)) (m1 : most ≤ 9223372036854775807) (hN : most < 0 ∨ most < (N : Int)) (he : er ≠ 0) :
    Calls Tryz.prog 63 #[.pointer (some ⟨g, 0, none⟩), .func (.func 98) #[] #[.pointer (some ⟨p, 0, none⟩), .pointer (some ⟨q, 0, none⟩)]] w (Gives g w (.int .u64 0) bs pl er) := by
  obtain ⟨A, c, c0, c1, c2, f0, f1, f2, hi, hc, hA⟩ := reads_cells h
  have H := hide h
  have HR := hide hr
  have hx2 : (er != 0) = true := by simpa using he
  have HN := hide hN
  clear h hr hA he hN
  go_enter Tryz.func63, Tryz.ntmps63
  go_wp2_with fail
  refine (stopped_no g bs pl _ H.out).mono ?_
  rintro e w' ⟨rfl, rfl⟩
  go_wp2_with fail
  refine (read_any A _ c bs w hi rfl hl hb).mono ?_
  rintro e w' ⟨rfl, rfl⟩
  rw [HR.out]
  go_wp2_with fail
  refine (above_over p q most er N w hp hq m1 HN.out).mono ?_
  rintro e w' ⟨rfl, rfl⟩
  go_wp2
  go_ret
  exact ⟨rfl, reads_fail H.out⟩

/-! The document's reader as plain functions: the bytes, the place, the error. -/
theorem nu_number_any (g : Nat) (xs : List Int) (t : Nat) (E : Int) (w : World) (h : Reads w g (xs.drop t) t E) (hb : Byte xs) (hl : xs.length ≤ 1000000) (ht : t ≤ xs.length) :
    Calls Tryz.prog 42 #[.pointer (some ⟨g, 0, none⟩)] w (Gives g w (.int .u64 (nVal xs t E)) (xs.drop (nu_nAt xs t E)) (nu_nAt xs t E) (nEr xs t E)) := by
  have hd : (xs.drop t).length ≤ 1000000 := by rw [List.length_drop]; omega
  have key : Calls Tryz.prog 63 #[.pointer (some ⟨g, 0, none⟩), .func (.func 64) #[] #[]] w (Gives g w (.int .u64 (nVal xs t E)) (xs.drop (nu_nAt xs t E)) (nu_nAt xs t E) (nEr xs t E)) := by
    unfold nVal nu_nAt nEr
    by_cases hE : E = 0
    · subst hE
      rcases rd_cases (xs.drop t) (byte_drop hb t) with hr | hr | ⟨N, n, hr, hN, hn, _⟩
      · have := next_bad g (xs.drop t) t 3 (.func (.func 64) #[] #[]) w h (byte_drop hb t) (by omega) hr (by omega)
        simpa [hr] using this
      · have := next_bad g (xs.drop t) t 4 (.func (.func 64) #[] #[]) w h (byte_drop hb t) (by omega) hr (by omega)
        simpa [hr] using this
      · have := number_ok g (xs.drop t) t N n w h (byte_drop hb t) (by omega) hr hn (by omega) (by omega)
        simpa [hr, List.drop_drop] using this
    · have := next_stop g (xs.drop t) t E (.func (.func 64) #[] #[]) w h hE
      simpa [hE] using this
  have KEY := hide key
  clear key h
  go_enter Tryz.func42, Tryz.ntmps42
  go_wp2_with fail
  refine KEY.out.mono ?_
  rintro e w' ⟨rfl, ho, hr⟩
  go_wp2
  go_ret
  exact ⟨rfl, ho, hr⟩
/-- A reader is there still, where two blocks more have been made. -/
theorem Reads.later {w w' : World} {g : Nat} {bs : List Int} {pl er : Int} (h : Reads w g bs pl er) (hb : Below w.heap.size w w') : Reads w' g bs pl er := by
  obtain ⟨A, c, hw, hi, hc, hA⟩ := h.ex
  exact ⟨A, c, hw.later hb, hi.below hb, hc, hA⟩
theorem Reads.far {w w' : World} {g g' : Nat} {bs : List Int} {pl er : Int} {t : TypeId} {l : List Value} (h : Reads w g bs pl er) (ho : Only g' w w') (hw' : Whole w g' t l) (ht : t ≠ 5) (hne : g ≠ g') : Reads w' g bs pl er := by
  obtain ⟨A, c, hw, hi, hc, hA⟩ := h.ex
  exact ⟨A, c, hw.far ho hne, hi.only ho hw' ht, hc, hA⟩

/-- 'next' behind a bound. -/
theorem next_above (g p q : Nat) (xs : List Int) (t : Nat) (E most er : Int) (w : World) (h : Reads w g (xs.drop t) t E) (hb : Byte xs) (hl : xs.length ≤ 1000000) (ht : t ≤ xs.length)
    (hp : w.cell? ⟨p, 0, none⟩ = some (.int .i64 most)) (hq : w.cell? ⟨q, 0, none⟩ = some (.int .i64 er)) (m1 : most ≤ 9223372036854775807) (he : er ≠ 0) :
    Calls Tryz.prog 63 #[.pointer (some ⟨g, 0, none⟩), .func (.func 98) #[] #[.pointer (some ⟨p, 0, none⟩), .pointer (some ⟨q, 0, none⟩)]] w
      (Gives g w (.int .u64 (uVal xs t E most)) (xs.drop (uAt xs t E most)) (uAt xs t E most) (uEr xs t E most er)) := by
  have hd : (xs.drop t).length ≤ 1000000 := by rw [List.length_drop]; omega
  unfold uVal uAt uEr nVal nu_nAt nEr
  by_cases hE : E = 0
  · subst hE
    rcases rd_cases (xs.drop t) (byte_drop hb t) with hr | hr | ⟨N, n, hr, hN, hn, _⟩
    · have := next_bad g (xs.drop t) t 3 (.func (.func 98) #[] #[.pointer (some ⟨p, 0, none⟩), .pointer (some ⟨q, 0, none⟩)]) w h (byte_drop hb t) (by omega) hr (by omega)
      simpa [hr] using this
    · have := next_bad g (xs.drop t) t 4 (.func (.func 98) #[] #[.pointer (some ⟨p, 0, none⟩), .pointer (some ⟨q, 0, none⟩)]) w h (byte_drop hb t) (by omega) hr (by omega)
      simpa [hr] using this
    · by_cases ho : most < 0 ∨ most < (N : Int)
      · have := next_over g p q (xs.drop t) t most er N n w h (byte_drop hb t) (by omega) hr hp hq m1 ho he
        simpa [hr, nu_over, ho] using this
      · have := next_under g p q (xs.drop t) t most N n w h (byte_drop hb t) (by omega) hr hn (by omega) (by omega) hp (by omega) m1 (by omega)
        simpa [hr, nu_over, ho, List.drop_drop] using this
  · have := next_stop g (xs.drop t) t E (.func (.func 98) #[] #[.pointer (some ⟨p, 0, none⟩), .pointer (some ⟨q, 0, none⟩)]) w h hE
    simpa [hE] using this

theorem upto_any (g : Nat) (xs : List Int) (t : Nat) (E most : Int) (w : World) (h : Reads w g (xs.drop t) t E) (hb : Byte xs) (hl : xs.length ≤ 1000000) (ht : t ≤ xs.length) (m1 : most ≤ 9223372036854775807) :
    Calls Tryz.prog 87 #[.pointer (some ⟨g, 0, none⟩), .int .i64 most] w (Gives g w (.int .i64 (uVal xs t E most)) (xs.drop (uAt xs t E most)) (uAt xs t E most) (uEr xs t E most 5)) := by
  obtain ⟨v0, v1⟩ := uVal_bd xs t E most hb m1
  have hbl : Below w.heap.size w ((w.alloc (.cells #[.int .i64 most] 3)).alloc (.cells #[.int .i64 5] 37)) := ((Below.refl _ _).alloc (Nat.le_refl _) _).alloc (by simp) _
  have KEY := hide (next_above g w.heap.size (w.heap.size + 1) xs t E most 5 _ (h.later hbl) hb hl ht (by simp) (by simp) m1 (by omega))
  clear h
  generalize uVal xs t E most = V at *
  go_enter Tryz.func87, Tryz.ntmps87
  go_wp2_with (go_at_call 88; go_in)
  refine KEY.out.mono ?_
  rintro e w' ⟨rfl, ho, hr⟩
  go_wp2
  go_ret
  exact ⟨rfl, (Only.of_below hbl).trans ho, hr⟩

theorem some_any (g : Nat) (xs : List Int) (t : Nat) (E most : Int) (w : World) (h : Reads w g (xs.drop t) t E) (hb : Byte xs) (hl : xs.length ≤ 1000000) (ht : t ≤ xs.length) (m1 : most ≤ 9223372036854775807) :
    Calls Tryz.prog 66 #[.pointer (some ⟨g, 0, none⟩), .int .i64 most] w (Gives g w (.int .i64 (uVal xs t E most)) (xs.drop (uAt xs t E most)) (uAt xs t E most) (uEr xs t E most 6)) := by
  obtain ⟨v0, v1⟩ := uVal_bd xs t E most hb m1
  have hbl : Below w.heap.size w ((w.alloc (.cells #[.int .i64 most] 3)).alloc (.cells #[.int .i64 6] 37)) := ((Below.refl _ _).alloc (Nat.le_refl _) _).alloc (by simp) _
  have KEY := hide (next_above g w.heap.size (w.heap.size + 1) xs t E most 6 _ (h.later hbl) hb hl ht (by simp) (by simp) m1 (by omega))
  clear h
  generalize uVal xs t E most = V at *
  go_enter Tryz.func66, Tryz.ntmps66
  go_wp2_with (go_at_call 88; go_in)
  refine KEY.out.mono ?_
  rintro e w' ⟨rfl, ho, hr⟩
  go_wp2
  go_ret
  exact ⟨rfl, (Only.of_below hbl).trans ho, hr⟩

/-! Fail, Err, At, Done. -/
theorem fail_any (g : Nat) (bs : List Int) (pl E x : Int) (w : World) (h : Reads w g bs pl E) :
    Calls Tryz.prog 69 #[.pointer (some ⟨g, 0, none⟩), .int .i64 x] w (Gives g w (.tuple #[]) bs pl (fEr E x)) := by
  obtain ⟨A, c, c0, c1, c2, f0, f1, f2, hi, hc, hA⟩ := reads_cells h
  have H := hide h
  clear h hA hc hi
  unfold fEr
  by_cases hE : E = 0
  · subst hE
    go_enter Tryz.func69, Tryz.ntmps69
    go_wp2_with fail
    refine (stopped_no g bs pl _ H.out).mono ?_
    rintro e w' ⟨rfl, rfl⟩
    go_wp2
    go_end0
    exact ⟨rfl, reads_fail H.out⟩
  · have HE := hide hE
    simp only [hE, if_false]
    clear hE
    go_enter Tryz.func69, Tryz.ntmps69
    go_wp2_with fail
    refine (stopped_yes g bs pl E _ H.out HE.out).mono ?_
    rintro e w' ⟨rfl, rfl⟩
    go_wp2
    go_end0
    exact ⟨rfl, Only.refl, H.out⟩

theorem rerr_any (g : Nat) (bs : List Int) (pl E : Int) (w : World) (h : Reads w g bs pl E) : Calls Tryz.prog 67 #[.pointer (some ⟨g, 0, none⟩)] w fun e w' => e = .returned (.int .i64 E) ∧ w = w' := by
  obtain ⟨A, c, c0, c1, c2, f0, f1, f2, hi, hc, hA⟩ := reads_cells h
  clear h hA hc hi
  go_enter Tryz.func67, Tryz.ntmps67
  go_wp2
  go_ret
  exact ⟨rfl, rfl⟩
theorem rdone_any (g : Nat) (xs : List Int) (t : Nat) (E : Int) (w : World) (h : Reads w g (xs.drop t) t E) : Calls Tryz.prog 45 #[.pointer (some ⟨g, 0, none⟩)] w fun e w' => e = .returned (.int .i64 (dVal xs t E)) ∧ w = w' := by
  obtain ⟨A, c, c0, c1, c2, f0, f1, f2, hi, hc, hA⟩ := reads_cells h
  have H := hide h
  have hlen : (xs.drop t).length = xs.length - t := List.length_drop
  rw [hlen] at c0
  clear h hA hc hi hlen
  unfold dVal
  by_cases hE : E = 0
  · subst hE
    by_cases ht : t < xs.length
    · have hd : 0 < xs.length - t := by omega
      simp only [ht, and_self, if_true]
      go_enter Tryz.func45, Tryz.ntmps45
      go_wp2_with fail
      refine (rerr_any g _ _ _ _ H.out).mono ?_
      rintro e w' ⟨rfl, rfl⟩
      go_wp2
      go_ret
      exact ⟨rfl, rfl⟩
    · have hd : xs.length - t = 0 := by omega
      rw [hd] at c0
      simp only [ht, and_false, if_false]
      clear hd
      go_enter Tryz.func45, Tryz.ntmps45
      go_wp2_with fail
      refine (rerr_any g _ _ _ _ H.out).mono ?_
      rintro e w' ⟨rfl, rfl⟩
      go_wp2
      go_ret
      exact ⟨rfl, rfl⟩
  · have hE' : (E != 0) = true := by simpa using hE
    simp only [hE, false_and, if_false]
    clear hE
    go_enter Tryz.func45, Tryz.ntmps45
    go_wp2_with fail
    refine (rerr_any g _ _ _ _ H.out).mono ?_
    rintro e w' ⟨rfl, rfl⟩
    go_wp2
    go_ret
    exact ⟨rfl, rfl⟩
/-- The program's reader against the document's state. -/
def RdS (w : World) (g : Nat) (xs : List Int) (s : Nat × Int) : Prop := ∃ t, t ≤ xs.length ∧ Reads w g (xs.drop t) t s.2 ∧ (s.2 = 0 → t = s.1)
theorem RdS.later {w w' : World} {g : Nat} {xs : List Int} {s : Nat × Int} (h : RdS w g xs s) (hb : Below w.heap.size w w') : RdS w' g xs s := by
  obtain ⟨t, h1, h2, h3⟩ := h
  exact ⟨t, h1, h2.later hb, h3⟩
theorem RdS.far {w w' : World} {g g' : Nat} {xs : List Int} {s : Nat × Int} {t : TypeId} {l : List Value} (h : RdS w g xs s) (ho : Only g' w w') (hw : Whole w g' t l) (ht : t ≠ 5) (hne : g ≠ g') : RdS w' g xs s := by
  obtain ⟨t, h1, h2, h3⟩ := h
  exact ⟨t, h1, h2.far ho hw ht hne, h3⟩
theorem RdS.lt {w : World} {g : Nat} {xs : List Int} {s : Nat × Int} (h : RdS w g xs s) : g < w.heap.size := by
  obtain ⟨t, h1, h2, h3⟩ := h
  obtain ⟨A, c, hw, _⟩ := h2.ex
  exact hw.lt
/-- What a call on a reader leaves: the value, the reader. -/
def GivesS (g : Nat) (w : World) (v : Value) (xs : List Int) (s : Nat × Int) (e : Ending) (w' : World) : Prop := e = .returned v ∧ Only g w w' ∧ RdS w' g xs s

theorem nAt_le {xs : List Int} {t : Nat} (E : Int) (hb : Byte xs) (ht : t ≤ xs.length) : nu_nAt xs t E ≤ xs.length := by
  unfold nu_nAt
  split
  · obtain ⟨N, n, er, hr, hn⟩ := rd_some xs t hb
    rw [hr]
    simp
    omega
  · exact ht
theorem uAt_le {xs : List Int} {t : Nat} (E most : Int) (hb : Byte xs) (ht : t ≤ xs.length) : uAt xs t E most ≤ xs.length := by
  unfold uAt
  split
  · exact ht
  · exact nAt_le E hb ht
theorem up_same {xs : List Int} {s : Nat × Int} {t : Nat} (most er : Int) (h : s.2 = 0 → t = s.1) :
    uVal xs t s.2 most = (upD xs s most er).2 ∧ uEr xs t s.2 most er = (upD xs s most er).1.2 ∧ ((upD xs s most er).1.2 = 0 → uAt xs t s.2 most = (upD xs s most er).1.1) := by
  obtain ⟨s1, E⟩ := s
  simp only at h ⊢
  by_cases hE : E = 0
  · rw [h hE]
    exact ⟨rfl, rfl, fun _ => rfl⟩
  · have e1 : ∀ x, nEr xs x E = E := fun x => by unfold nEr; rw [if_neg hE]
    have e2 : ∀ x, nVal xs x E = 0 := fun x => by unfold nVal; rw [if_neg hE]
    unfold upD uVal uEr
    simp only [e1, e2, hE, false_and, if_false]
    exact ⟨trivial, trivial, fun q => by first | exact absurd q hE | cases q⟩
theorem upD_bd {xs : List Int} {s : Nat × Int} {most er : Int} (hb : Byte xs) (m0 : 0 ≤ most) : 0 ≤ (upD xs s most er).2 ∧ (upD xs s most er).2 ≤ most := by
  have hn := (nVal_bd xs s.1 s.2 hb).1
  have hz := (nVal_bd xs s.1 s.2 hb).2.2
  unfold upD uVal
  simp only
  split
  · exact ⟨Int.le_refl 0, m0⟩
  · rename_i q
    refine ⟨hn, ?_⟩
    by_cases z : nEr xs s.1 s.2 = 0
    · have : nu_over most (nVal xs s.1 s.2) ≠ true := fun y => q ⟨z, y⟩
      unfold nu_over at this
      simp only [ne_eq, decide_eq_true_eq, not_or] at this
      omega
    · rw [hz z]; exact m0
theorem upD_zero {xs : List Int} {s : Nat × Int} {most er : Int} (hb : Byte xs) (h : (upD xs s most er).1.2 ≠ 0) : (upD xs s most er).2 = 0 := by
  have hz := (nVal_bd xs s.1 s.2 hb).2.2
  unfold upD uVal uEr at *
  simp only at h ⊢
  split
  · rfl
  · rename_i q
    rw [if_neg q] at h
    exact hz h

theorem upto_s (g : Nat) (xs : List Int) (s : Nat × Int) (most : Int) (w : World) (h : RdS w g xs s) (hb : Byte xs) (hl : xs.length ≤ 1000000) (m1 : most ≤ 9223372036854775807) :
    Calls Tryz.prog 87 #[.pointer (some ⟨g, 0, none⟩), .int .i64 most] w (GivesS g w (.int .i64 (upD xs s most 5).2) xs (upD xs s most 5).1) := by
  obtain ⟨t, h1, h2, h3⟩ := h
  obtain ⟨e1, e2, e3⟩ := up_same (xs := xs) most 5 h3
  refine (upto_any g xs t s.2 most w h2 hb hl h1 m1).mono ?_
  rintro e w' ⟨rfl, ho, hr⟩
  rw [e2] at hr
  exact ⟨by rw [e1], ho, ⟨_, uAt_le s.2 most hb h1, hr, e3⟩⟩
theorem some_s (g : Nat) (xs : List Int) (s : Nat × Int) (most : Int) (w : World) (h : RdS w g xs s) (hb : Byte xs) (hl : xs.length ≤ 1000000) (m1 : most ≤ 9223372036854775807) :
    Calls Tryz.prog 66 #[.pointer (some ⟨g, 0, none⟩), .int .i64 most] w (GivesS g w (.int .i64 (upD xs s most 6).2) xs (upD xs s most 6).1) := by
  obtain ⟨t, h1, h2, h3⟩ := h
  obtain ⟨e1, e2, e3⟩ := up_same (xs := xs) most 6 h3
  refine (some_any g xs t s.2 most w h2 hb hl h1 m1).mono ?_
  rintro e w' ⟨rfl, ho, hr⟩
  rw [e2] at hr
  exact ⟨by rw [e1], ho, ⟨_, uAt_le s.2 most hb h1, hr, e3⟩⟩
theorem fail_s (g : Nat) (xs : List Int) (s : Nat × Int) (x : Int) (hx : x ≠ 0) (w : World) (h : RdS w g xs s) :
    Calls Tryz.prog 69 #[.pointer (some ⟨g, 0, none⟩), .int .i64 x] w (GivesS g w (.tuple #[]) xs (s.1, fEr s.2 x)) := by
  obtain ⟨t, h1, h2, h3⟩ := h
  refine (fail_any g _ t s.2 x w h2).mono ?_
  rintro e w' ⟨rfl, ho, hr⟩
  refine ⟨rfl, ho, ⟨t, h1, hr, fun q => ?_⟩⟩
  simp only at q
  unfold fEr at q
  split at q
  · exact absurd q hx
  · rename_i z; exact absurd q z
theorem err_s (g : Nat) (xs : List Int) (s : Nat × Int) (w : World) (h : RdS w g xs s) : Calls Tryz.prog 67 #[.pointer (some ⟨g, 0, none⟩)] w fun e w' => e = .returned (.int .i64 s.2) ∧ w = w' := by
  obtain ⟨t, h1, h2, h3⟩ := h
  exact rerr_any g _ t s.2 w h2

/-- The pen's number: the program's way. -/
theorem pen_way (xs : List Int) (s : Nat × Int) (hb : Byte xs) :
    (ofN (upD xs s 9223372036854775807 5).2).1 = (penD xs s).2 ∧ (if (ofN (upD xs s 9223372036854775807 5).2).2 = true then (upD xs s 9223372036854775807 5).1.2 else fEr (upD xs s 9223372036854775807 5).1.2 5) = (penD xs s).1.2 ∧
    ((penD xs s).1.2 = 0 → (ofN (upD xs s 9223372036854775807 5).2).2 = true ∧ (upD xs s 9223372036854775807 5).1.2 = 0 ∧ (upD xs s 9223372036854775807 5).1.1 = (penD xs s).1.1) := by
  have hz := (nVal_bd xs s.1 s.2 hb).2.2
  have h0 := (nVal_bd xs s.1 s.2 hb).1
  have o0 : ofN 0 = (zeroP, true) := by decide
  unfold upD uVal uEr uAt penD numD
  simp only
  obtain ⟨E, hE⟩ : ∃ E, nEr xs s.1 s.2 = E := ⟨_, rfl⟩
  obtain ⟨V, hV⟩ : ∃ V, nVal xs s.1 s.2 = V := ⟨_, rfl⟩
  obtain ⟨T, hT⟩ : ∃ T, nu_nAt xs s.1 s.2 = T := ⟨_, rfl⟩
  rw [hE, hV, hT]
  rw [hE, hV] at hz
  rw [hV] at h0
  by_cases q : E = 0
  · subst q
    by_cases o : 9223372036854775807 < V
    · have ho : nu_over 9223372036854775807 V = true := by unfold nu_over; simp; omega
      simp only [ho, and_self, if_true]
      rw [if_pos ⟨trivial, by omega⟩, o0]
      simp
    · have ho : nu_over 9223372036854775807 V = false := by unfold nu_over; simp; omega
      simp only [ho, Bool.false_eq_true, and_false, if_false]
      by_cases p : 16927 < V
      · rw [if_pos ⟨trivial, p⟩]
        have e := ofN_out V (.inr p)
        rw [e, o0]
        simp [fEr]
      · rw [if_neg (fun z => p z.2)]
        cases hk : (ofN V).2
        · simp [fEr]
        · simp []
  · rw [hz q]
    simp [q, o0]
theorem takerune_s (g : Nat) (xs : List Int) (s : Nat × Int) (w : World) (h : RdS w g xs s) (hb : Byte xs) (hl : xs.length ≤ 1000000) :
    Calls Tryz.prog 104 #[.pointer (some ⟨g, 0, none⟩)] w (GivesS g w (.int .i32 (upD xs s 1114111 5).2) xs (upD xs s 1114111 5).1) := by
  have KEY := hide (upto_s g xs s 1114111 w h hb hl (by omega))
  obtain ⟨k0, k1⟩ := upD_bd (xs := xs) (s := s) (most := 1114111) (er := 5) hb (by omega)
  obtain ⟨U, hU⟩ : ∃ U, upD xs s 1114111 5 = U := ⟨_, rfl⟩
  rw [hU] at KEY k0 k1 ⊢
  clear h hU
  go_enter Tryz.func104, Tryz.ntmps104
  go_wp2_with fail
  refine KEY.out.mono ?_
  rintro e w1 ⟨rfl, ho, hr⟩
  go_wp2
  go_ret
  exact ⟨rfl, ho, hr⟩

theorem upD_i64 {xs : List Int} {s : Nat × Int} {most er : Int} (hb : Byte xs) (m1 : most ≤ 9223372036854775807) : 0 ≤ (upD xs s most er).2 ∧ (upD xs s most er).2 ≤ 9223372036854775807 := uVal_bd xs s.1 s.2 most hb m1
theorem only_put3 {g q : Nat} {w w1 : World} (h : Only g w w1) (hq : w.heap.size ≤ q) (x y z : Value) : Only g w (((w1.setCell ⟨q, 0, none⟩ x).setCell ⟨q, 1, none⟩ y).setCell ⟨q, 2, none⟩ z) :=
  ⟨h.os, h.tape, h.output, by simp [World.setCell]; exact h.size, fun i hi hne => by
    refine ((Below.heap_setCell _ _ _ _ ?_).trans ((Below.heap_setCell _ _ _ _ ?_).trans (Below.heap_setCell _ _ _ _ ?_))).trans (h.block i hi hne) <;> simp <;> omega⟩
theorem only_alloc {g : Nat} {w w1 : World} (h : Only g w w1) (o : Obj) : Only g w (w1.alloc o) := h.trans (Only.of_below ((Below.refl _ _).alloc (Nat.le_refl _) _))
theorem only_below {g : Nat} {w w1 w2 : World} (h : Only g w w1) (hb : Below w1.heap.size w1 w2) : Only g w w2 := h.trans (Only.of_below hb)
/-- A new block, ahead of what is done to the reader. -/
theorem only_from {g : Nat} {w w0 w1 : World} (h0 : Below w.heap.size w w0) (h : Only g w0 w1) : Only g w w1 := (Only.of_below h0).trans h
theorem only_putq {g q i : Nat} {w w1 : World} (h : Only g w w1) (hq : w.heap.size ≤ q) (x : Value) : Only g w (w1.setCell ⟨q, i, none⟩ x) :=
  ⟨h.os, h.tape, h.output, by simp [World.setCell]; exact h.size, fun k hk hne => (Below.heap_setCell _ _ _ _ (by simp; omega)).trans (h.block k hk hne)⟩
theorem only_drewN {g : Nat} {w w1 : World} (h : Only g w w1) (n : Nat) : Only g w (w1.drewN n) := ⟨h.os, h.tape, h.output, h.size, h.block⟩
/-- A reader, where another block is changed. -/
theorem RdS.putq {w : World} {g q i : Nat} {t : TypeId} {l : List Value} {xs : List Int} {s : Nat × Int} {x : Value} (h : RdS w g xs s) (hw : Whole w q t l) (ht : t ≠ 5) (hne : g ≠ q) : RdS (w.setCell ⟨q, i, none⟩ x) g xs s := h.far (Only.put i x) hw ht hne

theorem takeoften_s (g : Nat) (xs : List Int) (s : Nat × Int) (room : Int) (w : World) (h : RdS w g xs s) (hb : Byte xs) (hl : xs.length ≤ 1000000) (hm : room ≤ 9223372036854775807) :
    Calls Tryz.prog 99 #[.pointer (some ⟨g, 0, none⟩), .int .i64 room] w (GivesS g w (.int .i64 (upD xs s room 6).2) xs (if (upD xs s room 6).1.2 = 0 ∧ (upD xs s room 6).2 = 0 then ((upD xs s room 6).1.1, 3) else (upD xs s room 6).1)) := by
  have KEY := hide (some_s g xs s room w h hb hl hm)
  have hz := upD_zero (xs := xs) (s := s) (most := room) (er := 6) hb
  obtain ⟨⟨⟨T, E⟩, V⟩, hU⟩ : ∃ U, upD xs s room 6 = U := ⟨_, rfl⟩
  rw [hU] at KEY hz ⊢
  simp only at hz ⊢
  clear h hU
  by_cases hV : V = 0
  · have e0 : (V == 0) = true := by simpa using hV
    have HV := hide hV
    have HE : Hid ((if E = 0 ∧ V = 0 then (T, 3) else (T, E)) = (T, fEr E 3)) := by
      unfold Hid fEr
      by_cases q : E = 0
      · rw [if_pos ⟨q, hV⟩, if_pos q]
      · rw [if_neg (fun z => q z.1), if_neg q]
    rw [HE.out]
    clear hV hz
    go_enter Tryz.func99, Tryz.ntmps99
    go_wp2_with fail
    refine KEY.out.mono ?_
    rintro e w1 ⟨rfl, ho, hr⟩
    have HR := hide hr
    have HO := hide ho
    clear hr ho
    go_wp2_with fail
    refine (fail_s g xs (T, E) 3 (by decide) w1 HR.out).mono ?_
    rintro e w2 ⟨rfl, ho, hr⟩
    go_wp2
    go_ret
    exact ⟨rfl, HO.out.trans ho, hr⟩
  · have e0 : (V == 0) = false := by simpa using hV
    rw [if_neg (fun z => hV z.2)]
    clear hV hz
    go_enter Tryz.func99, Tryz.ntmps99
    go_wp2_with fail
    refine KEY.out.mono ?_
    rintro e w1 ⟨rfl, ho, hr⟩
    go_wp2
    go_ret
    exact ⟨rfl, ho, hr⟩

theorem ofN_bd (n : Int) : (ofN n).1.f < 256 ∧ (ofN n).1.g < 256 ∧ (ofN n).1.b < 256 := by
  unfold ofN
  split
  · refine ⟨?_, ?_, ?_⟩ <;> simp only <;> omega
  · exact ⟨by decide, by decide, by decide⟩
/-- What is left of a reader and a pen. -/
def GivesP (g : Nat) (w : World) (p : Pn) (xs : List Int) (s : Nat × Int) (e : Ending) (w' : World) : Prop := e = .returned (.agg #[.int .u8 (p.f : Int), .int .u8 (p.g : Int), .int .u8 (p.b : Int)]) ∧ Only g w w' ∧ RdS w' g xs s
theorem ret3s {R : Ending → World → Prop} {a : Act} {w : World} {fn : Func} {s : Nat} {q : Nat} {x y z : Int} (hr : fn.results = #[.cell s 103]) (h4 : a.tmps.getD s undef = .pointer (some ⟨q, 0, none⟩)) (hd : a.defers = [])
    (hw : Whole w q 103 [.int .u8 x, .int .u8 y, .int .u8 z]) (hR : R (.returned (.agg #[.int .u8 x, .int .u8 y, .int .u8 z])) w) : bodyPost Tryz.prog fn R .ret a w := by
  have c0 : w.cell? ⟨q, 0, none⟩ = some (.int .u8 x) := hw.cell 0
  have c1 : w.cell? ⟨q, 1, none⟩ = some (.int .u8 y) := hw.cell 1
  have c2 : w.cell? ⟨q, 2, none⟩ = some (.int .u8 z) := hw.cell 2
  clear hw
  rw [Array.getD_eq_getD_getElem?] at h4
  exact bodyPost_ret (v := .agg #[.int .u8 x, .int .u8 y, .int .u8 z]) (by simp [results, hr, h4, c0, c1, c2, go_sem]) hd hR
theorem put3s {w : World} {q : Nat} {t : TypeId} {a b c : Value} (h : Whole w q t [a, b, c]) (x y z : Value) : Whole (((w.setCell ⟨q, 0, none⟩ x).setCell ⟨q, 1, none⟩ y).setCell ⟨q, 2, none⟩ z) q t [x, y, z] := ((h.put 0 x).put 1 y).put 2 z
theorem RdS.eqv {w : World} {g : Nat} {xs : List Int} {s s' : Nat × Int} (h : RdS w g xs s) (he : s.2 = s'.2) (h1 : s'.2 = 0 → s.1 = s'.1) : RdS w g xs s' := by
  obtain ⟨t, a, b, c⟩ := h
  refine ⟨t, a, he ▸ b, fun q => (c (he.trans q)).trans (h1 q)⟩
theorem pen_fin {xs : List Int} {s : Nat × Int} {T : Nat} {E V : Int} {p : Pn} {ok : Bool} (hb : Byte xs) (hU : upD xs s 9223372036854775807 5 = ((T, E), V)) (hP : ofN V = (p, ok)) :
    p = (penD xs s).2 ∧ (if ok = true then E else fEr E 5) = (penD xs s).1.2 ∧ ((penD xs s).1.2 = 0 → T = (penD xs s).1.1) := by
  obtain ⟨h1, h2, h3⟩ := pen_way xs s hb
  rw [hU] at h1 h2 h3
  simp only at h1 h2 h3
  rw [hP] at h1 h2 h3
  exact ⟨h1, h2, fun q => (h3 q).2.2⟩
theorem takepen_s (g : Nat) (xs : List Int) (s : Nat × Int) (w : World) (h : RdS w g xs s) (hb : Byte xs) (hl : xs.length ≤ 1000000) :
    Calls Tryz.prog 103 #[.pointer (some ⟨g, 0, none⟩)] w (GivesP g w (penD xs s).2 xs (penD xs s).1) := by
  obtain ⟨W0, hW0⟩ : ∃ W0, w.alloc (.cells #[.int .u8 0, .int .u8 0, .int .u8 0] 103) = W0 := ⟨_, rfl⟩
  have hB0 : Below w.heap.size w W0 := by rw [← hW0]; exact (Below.refl _ _).alloc (Nat.le_refl _) _
  have HC0 : Hid (Whole W0 w.heap.size 103 [.int .u8 0, .int .u8 0, .int .u8 0]) := by unfold Hid; rw [← hW0]; exact Whole.new w 103 _
  have HG := hide h.lt
  have KEY := hide (upto_s g xs s 9223372036854775807 W0 (h.later hB0) hb hl (by omega))
  obtain ⟨v0, v1⟩ := upD_i64 (xs := xs) (s := s) (most := 9223372036854775807) (er := 5) hb (by omega)
  obtain ⟨⟨⟨T, E⟩, V⟩, hU⟩ : ∃ U, upD xs s 9223372036854775807 5 = U := ⟨_, rfl⟩
  obtain ⟨⟨⟨F, G, B⟩, ok⟩, hP⟩ : ∃ P, ofN V = P := ⟨_, rfl⟩
  obtain ⟨f1, f2, f3⟩ := pen_fin hb hU hP
  have F1 := hide f1
  have F2 := hide f2
  have F3 := hide f3
  have HP := hide hP
  rw [hU] at KEY v0 v1
  simp only at KEY v0 v1
  have HB0 := hide hB0
  have HW0 := hide hW0
  clear hW0 hB0 h hU hP f1 f2 f3
  cases ok
  · go_enter Tryz.func103, Tryz.ntmps103
    go_wp2_with fail
    rw [HW0.out]
    refine KEY.out.mono ?_
    rintro e w1 ⟨rfl, ho1, hr1⟩
    have HO1 := hide (only_from HB0.out ho1)
    have HR1 := hide hr1
    have HC1 := hide (HC0.out.far ho1 (fun q => by have := HG.out; omega))
    clear ho1 hr1
    go_wp2_with fail
    refine (pn_of_any V (by omega) (by omega) w1).mono ?_
    rintro e w2 ⟨rfl, hb2⟩
    rw [HP.out]
    have HO2 := hide (only_below HO1.out hb2)
    have HR2 := hide (HR1.out.later hb2)
    have HC2 := hide (HC1.out.later hb2)
    clear hb2
    obtain ⟨w3, hw3⟩ : ∃ w3, w2.alloc (.cells #[.int .u8 (F : Int), .int .u8 (G : Int), .int .u8 (B : Int)] 103) = w3 := ⟨_, rfl⟩
    have hb3 : Below w2.heap.size w2 w3 := by rw [← hw3]; exact (Below.refl _ _).alloc (Nat.le_refl _) _
    have HD3 : Hid (Whole w3 w2.heap.size 103 [.int .u8 (F : Int), .int .u8 (G : Int), .int .u8 (B : Int)]) := by unfold Hid; rw [← hw3]; exact Whole.new w2 103 _
    have HR3 := hide (HR2.out.later hb3)
    have HC3 := hide (HC2.out.later hb3)
    have HO3 := hide (only_below HO2.out hb3)
    have HW3 := hide hw3
    have HG2 := hide HR2.out.lt
    have HLT := hide HC2.out.lt
    clear hb3 hw3
    go_wp2_with fail
    rw [HW3.out]
    refine (fail_s g xs (T, E) 5 (by decide) w3 HR3.out).mono ?_
    rintro e w4 ⟨rfl, ho4, hr4⟩
    have HC4 := hide (HC3.out.far ho4 (fun q => by have := HG.out; omega))
    have hd4 := HD3.out.far ho4 (fun q => by have := HG2.out; omega)
    have c0 := hd4.cell 0
    have c1 := hd4.cell 1
    have c2 := hd4.cell 2
    simp only [List.getElem?_cons_zero, List.getElem?_cons_succ] at c0 c1 c2
    have z0 := HC4.out.frozen 0
    have z1 := HC4.out.frozen 1
    have z2 := HC4.out.frozen 2
    have l4 := HC4.out.lt
    have d0 := HC4.out.cell 0
    have d1 := HC4.out.cell 1
    have d2 := HC4.out.cell 2
    simp only [List.getElem?_cons_zero, List.getElem?_cons_succ] at d0 d1 d2
    have HO4 := hide (HO3.out.trans ho4)
    have HR4 := hide hr4
    clear ho4 hr4 hd4
    go_wp2
    refine ret3s Tryz.results103 rfl rfl (put3s HC4.out _ _ _) ⟨by rw [← F1.out], only_put3 HO4.out (Nat.le_refl _) _ _ _, ?_⟩
    refine RdS.eqv (((HR4.out.putq HC4.out (by decide) (by have := HG.out; omega)).putq (HC4.out.put 0 _) (by decide) (by have := HG.out; omega)).putq ((HC4.out.put 0 _).put 1 _) (by decide) (by have := HG.out; omega)) ?_ F3.out
    have := F2.out
    simpa using this
  · go_enter Tryz.func103, Tryz.ntmps103
    go_wp2_with fail
    rw [HW0.out]
    refine KEY.out.mono ?_
    rintro e w1 ⟨rfl, ho1, hr1⟩
    have HO1 := hide (only_from HB0.out ho1)
    have HR1 := hide hr1
    have HC1 := hide (HC0.out.far ho1 (fun q => by have := HG.out; omega))
    clear ho1 hr1
    go_wp2_with fail
    refine (pn_of_any V (by omega) (by omega) w1).mono ?_
    rintro e w2 ⟨rfl, hb2⟩
    rw [HP.out]
    have HO2 := hide (only_below HO1.out hb2)
    have HR2 := hide (HR1.out.later hb2)
    have HC2 := hide (HC1.out.later hb2)
    clear hb2
    have z0 := HC2.out.frozen 0
    have z1 := HC2.out.frozen 1
    have z2 := HC2.out.frozen 2
    have l4 := HC2.out.lt
    have d0 := HC2.out.cell 0
    have d1 := HC2.out.cell 1
    have d2 := HC2.out.cell 2
    simp only [List.getElem?_cons_zero, List.getElem?_cons_succ] at d0 d1 d2
    go_wp2
    refine ret3s Tryz.results103 rfl rfl ((put3s HC2.out _ _ _).alloc _) ⟨by rw [← F1.out], only_alloc (only_put3 HO2.out (Nat.le_refl _) _ _ _) _, ?_⟩
    refine RdS.eqv ((((HR2.out.putq HC2.out (by decide) (by have := HG.out; omega)).putq (HC2.out.put 0 _) (by decide) (by have := HG.out; omega)).putq ((HC2.out.put 0 _).put 1 _) (by decide) (by have := HG.out; omega)).later ((Below.refl _ _).alloc (Nat.le_refl _) _)) ?_ F3.out
    have := F2.out
    simpa using this
theorem mem_take_succ (zs : List Int) (k : Nat) (x : Int) (hk : k < zs.length) (h : x ∉ zs.take k) (hx : zs.getD k 0 ≠ x) : x ∉ zs.take (k + 1) := by
  rw [take_snoc zs k _ hk rfl]
  intro hm
  rcases List.mem_append.1 hm with hm | hm
  · exact h hm
  · simp at hm; exact hx (by simpa using hm.symm)
theorem indexr_any (A : Option Addr) (n c : Nat) (zs : List Int) (x : Int) (w : World) (h : Ints .i32 w A zs) (hn : zs.length = n) (hl : n ≤ 1000000) :
    Calls Tryz.prog 111 #[.slice A n c, .int .i32 x] w fun e w' => ∃ r : Int, e = .returned (.int .i64 r) ∧ decide (0 ≤ r) = decide (x ∈ zs) ∧ w = w' := by
  have HC := hide h
  have HN := hide hn
  clear h hn
  go_enter Tryz.func111, Tryz.ntmps111
  go_wp2
  go_loopw [5, 8] (fun _ i wr => ∃ k : Nat, k ≤ n ∧ i = .int .i64 k ∧ Hid (x ∉ zs.take k) ∧ wr = w) (fun _ i _ => n - (intOf i).toNat)
  case atStart => exact ⟨0, Nat.zero_le _, rfl, (by unfold Hid; simp), rfl⟩
  case round =>
    obtain ⟨k, hk, rfl, HA, hw⟩ := hrel
    subst hw
    by_cases hlt : k < n
    · obtain ⟨b1, o1, rfl, hc, l1⟩ := HC.out.at (i := k) (by rw [HN.out]; exact hlt)
      obtain ⟨y, hy⟩ : ∃ y, zs.getD k 0 = y := ⟨_, rfl⟩
      rw [hy] at hc
      by_cases he : x = y
      · have HF : Hid (decide (x ∈ zs) = true) := by
          unfold Hid
          rw [decide_eq_true_eq, he, ← hy]
          exact getD_mem zs k (by rw [HN.out]; exact hlt)
        have hq : (x == y) = true := by simpa using he
        clear he hy
        go_wp2
        go_ret
        exact ⟨_, rfl, by rw [HF.out]; simp, rfl⟩
      · have HF : Hid (x ∉ zs.take (k + 1)) := mem_take_succ zs k x (by rw [HN.out]; exact hlt) HA.out (by rw [hy]; exact fun z => he z.symm)
        have hq : (x == y) = false := by simpa using he
        clear he hy
        go_wp2
        go_roundw
        case rel => exact ⟨k + 1, by omega, by go_num, HF, by first | rfl | trivial⟩
        case measure => simp [intOf]; omega
    · have HF : Hid (decide (x ∈ zs) = false) := by
        have := HA.out
        rw [List.take_of_length_le (by rw [HN.out]; omega)] at this
        unfold Hid
        exact decide_eq_false this
      go_wp2
      go_ret
      exact ⟨_, rfl, by rw [HF.out]; rfl, rfl⟩
theorem containsr_any (A : Option Addr) (n c : Nat) (zs : List Int) (x : Int) (w : World) (h : Ints .i32 w A zs) (hn : zs.length = n) (hl : n ≤ 1000000) :
    Calls Tryz.prog 108 #[.slice A n c, .int .i32 x] w fun e w' => e = .returned (.bool (decide (x ∈ zs))) ∧ w = w' := by
  have KEY := hide (indexr_any A n c zs x w h hn hl)
  clear h hn
  go_enter Tryz.func108, Tryz.ntmps108
  go_wp2_with fail
  refine KEY.out.mono ?_
  rintro e w1 ⟨r, rfl, hx, rfl⟩
  go_wp2
  go_ret
  exact ⟨rfl, rfl⟩

theorem marks_0 (xs : List Int) (s : Nat × Int) : marksD xs s ((0 : Nat) : Int) = (s, 0, 0, true) := rfl
theorem marks_1 (xs : List Int) (s : Nat × Int) : marksD xs s ((1 : Nat) : Int) = ((upD xs s 1114111 5).1, (upD xs s 1114111 5).2, 0, decide ((upD xs s 1114111 5).2 ≠ 0)) := rfl
theorem marks_2 (xs : List Int) (s : Nat × Int) : marksD xs s ((2 : Nat) : Int) = ((upD xs (upD xs s 1114111 5).1 1114111 5).1, (upD xs s 1114111 5).2, (upD xs (upD xs s 1114111 5).1 1114111 5).2, decide ((upD xs s 1114111 5).2 ≠ 0) && decide ((upD xs (upD xs s 1114111 5).1 1114111 5).2 ≠ 0)) := rfl
theorem marks_ok (xs : List Int) (s : Nat × Int) (K : Nat) (hK : K ≤ 2) : (!(decide ((0 : Int) ∈ [(marksD xs s (K : Int)).2.1, (marksD xs s (K : Int)).2.2.1].take K))) = (marksD xs s (K : Int)).2.2.2 := by
  rcases (by omega : K = 0 ∨ K = 1 ∨ K = 2) with rfl | rfl | rfl
  · rw [marks_0]; rfl
  · rw [marks_1, Bool.eq_iff_iff]; simp; omega
  · rw [marks_2, Bool.eq_iff_iff]; simp; omega
theorem arr_len : Tryz.prog.arrayLen 102 = 2 := by kernel_rfl
theorem arr_elem : Tryz.prog.elem 102 = 21 := by kernel_rfl
theorem slice_h (q K : Nat) (hK : K ≤ 2) (w : World) : (Instr.sliceAt 102 (.pointer (some ⟨q, 0, none⟩)) none (some (.int .i64 (K : Int))) none).run Tryz.prog w = .ok (.slice (some ⟨q, 0, none⟩) K 2) w := by
  have ht : Tryz.prog.underlying 102 = some (.array (Tryz.prog.arrayLen 102) (Tryz.prog.elem 102)) := by rw [arr_len, arr_elem]; exact Tryz.underlying102
  have hi : Tryz.prog.info? 21 = some (Tryz.prog.info? 21).get! := by kernel_rfl
  have hc : Tryz.prog.cellsOf 21 = 1 := by kernel_rfl
  rw [run_sliceAt_array_h w 102 _ ht .i64 (K : Int) (by omega) (by rw [arr_len]; omega), arr_elem, run_sizeOf w hi, hc, arr_len]
  show Result.ok (slicedAt ⟨q, 0, none⟩ 0 (K : Int).toNat 2 1) w = _
  rw [Int.toNat_natCast]
  rfl
/-- What is left of a reader, and marks. -/
def GivesM (g : Nat) (w : World) (m n : Int) (ok : Bool) (xs : List Int) (s : Nat × Int) (e : Ending) (w' : World) : Prop := e = .returned (.tuple #[.agg #[.int .i32 m, .int .i32 n], .bool ok]) ∧ Only g w w' ∧ RdS w' g xs s
theorem ret22 {R : Ending → World → Prop} {a : Act} {w : World} {fn : Func} {s u : Nat} {q : Nat} {x y v : Value} (hr : fn.results = #[.cell s 102, .tmp u]) (h4 : a.tmps.getD s undef = .pointer (some ⟨q, 0, none⟩)) (h5 : a.tmps.getD u undef = v) (hd : a.defers = [])
    (hw : Whole w q 102 [x, y]) (hR : R (.returned (.tuple #[.agg #[x, y], v])) w) : bodyPost Tryz.prog fn R .ret a w := by
  have c0 : w.cell? ⟨q, 0, none⟩ = some x := hw.cell 0
  have c1 : w.cell? ⟨q, 1, none⟩ = some y := hw.cell 1
  clear hw
  rw [Array.getD_eq_getD_getElem?] at h4 h5
  exact bodyPost_ret (v := .tuple #[.agg #[x, y], v]) (by simp [results, hr, h4, h5, c0, c1, go_sem]) hd hR
theorem ints_two {w : World} {q : Nat} {m n : Int} (h : Whole w q 102 [.int .i32 m, .int .i32 n]) (K : Nat) : Ints .i32 w (some ⟨q, 0, none⟩) ([m, n].take K) := by
  have : Ints .i32 w (some ⟨q, 0, none⟩) [m, n] := .inr ⟨q, 0, rfl, fun i hi => by
    rw [Nat.zero_add, h.cell i]
    rcases i with _ | _ | i
    · rfl
    · rfl
    · simp at hi; omega⟩
  exact this.take K
theorem takemarks_s (g : Nat) (xs : List Int) (s : Nat × Int) (w : World) (h : RdS w g xs s) (hb : Byte xs) (hl : xs.length ≤ 1000000) :
    Calls Tryz.prog 105 #[.pointer (some ⟨g, 0, none⟩)] w (GivesM g w (marksD xs (upD xs s 2 6).1 (upD xs s 2 6).2).2.1 (marksD xs (upD xs s 2 6).1 (upD xs s 2 6).2).2.2.1 (marksD xs (upD xs s 2 6).1 (upD xs s 2 6).2).2.2.2 xs (marksD xs (upD xs s 2 6).1 (upD xs s 2 6).2).1) := by
  obtain ⟨W0, hW0⟩ : ∃ W0, (w.alloc (.cells #[.int .i32 0, .int .i32 0] 102)).alloc (.cells #[.int .i32 0, .int .i32 0] 102) = W0 := ⟨_, rfl⟩
  have hB0 : Below w.heap.size w W0 := by rw [← hW0]; exact two_new w _ _ [.int .i32 0, .int .i32 0] [.int .i32 0, .int .i32 0]
  have hc0 : Whole W0 w.heap.size 102 [.int .i32 0, .int .i32 0] := by rw [← hW0]; exact (Whole.new w 102 [.int .i32 0, .int .i32 0]).alloc _
  obtain ⟨q, hq⟩ : ∃ q, w.heap.size + 1 = q := ⟨_, rfl⟩
  have hd0 : Whole W0 q 102 [.int .i32 0, .int .i32 0] := by rw [← hW0, ← hq]; exact whole_snd w _ 102 [.int .i32 0, .int .i32 0]
  have HQ : Hid (w.heap.size + 1 = q) := hq
  have HG := hide h.lt
  have KEY := hide (some_s g xs s 2 W0 (h.later hB0) hb hl (by omega))
  obtain ⟨v0, v1⟩ := upD_bd (xs := xs) (s := s) (most := 2) (er := 6) hb (by omega)
  obtain ⟨⟨s1, V⟩, hU⟩ : ∃ U, upD xs s 2 6 = U := ⟨_, rfl⟩
  rw [hU] at KEY v0 v1 ⊢
  simp only at v0 v1 KEY ⊢
  obtain ⟨K, rfl⟩ : ∃ K : Nat, V = (K : Int) := ⟨V.toNat, by omega⟩
  have hK : K ≤ 2 := by omega
  have HB0 := hide hB0
  have HC0 := hide hc0
  have HD0 := hide hd0
  have HW0 := hide hW0
  have hq1 : g ≠ q := by have := HG.out; omega
  have hq2 : g ≠ w.heap.size := by have := HG.out; omega
  have hq3 : w.heap.size ≠ q := by omega
  have hq4 : w.heap.size ≤ q := by omega
  clear hW0 hB0 h hU hc0 hd0 v0 v1
  go_enter Tryz.func105, Tryz.ntmps105
  go_wp2_with fail
  rw [HW0.out]
  refine KEY.out.mono ?_
  rintro e w1 ⟨rfl, ho1, hr1⟩
  have HO1 := hide (only_from HB0.out ho1)
  have HR1 := hide hr1
  have HC1 := hide (HC0.out.far ho1 (Ne.symm hq2))
  have HD1 := hide (HD0.out.far ho1 (Ne.symm hq1))
  have hsl := slice_h q K hK
  clear ho1 hr1 hq
  go_wp2
  go_loopw [6, 12] (fun _ i wr => ∃ k : Nat, k ≤ K ∧ i = .int .i64 k ∧ Hid (RdS wr g xs (marksD xs s1 (k : Int)).1) ∧ Hid (Whole wr q 102 [.int .i32 (marksD xs s1 (k : Int)).2.1, .int .i32 (marksD xs s1 (k : Int)).2.2.1]) ∧ Hid (Whole wr w.heap.size 102 [.int .i32 0, .int .i32 0]) ∧ Hid (Only g w wr)) (fun _ i _ => K - (intOf i).toNat)
  case atStart => exact ⟨0, Nat.zero_le _, rfl, HR1, HD1, HC1, HO1⟩
  case round =>
    obtain ⟨k, hk, rfl, HR, HD, HC, HO⟩ := hrel
    by_cases hlt : k < K
    · have z0 := HD.out.frozen 0
      have z1 := HD.out.frozen 1
      have m0 := HD.out.cell 0
      have m1 := HD.out.cell 1
      simp only [List.getElem?_cons_zero, List.getElem?_cons_succ] at m0 m1
      rcases (by omega : k = 0 ∨ k = 1) with rfl | rfl
      · have HM := hide (marks_1 xs s1)
        have HN := hide (marks_0 xs s1)
        rw [HN.out] at HR HD m0 m1
        simp only at HD m0 m1
        go_wp2_with fail
        refine (takerune_s g xs _ wr HR.out hb hl).mono ?_
        rintro e w2 ⟨rfl, ho2, hr2⟩
        have HD2 := hide (HD.out.far ho2 (Ne.symm hq1))
        have HC2 := hide (HC.out.far ho2 (Ne.symm hq2))
        have HO2 := hide (HO.out.trans ho2)
        have HR2 := hide hr2
        have y0 := HD2.out.frozen 0
        have x0 := HD2.out.cell 0
        simp only [List.getElem?_cons_zero] at x0
        have l2 := HD2.out.lt
        clear ho2 hr2 m0 m1
        go_wp2
        go_roundw
        case rel => exact ⟨1, by omega, rfl, by rw [HM.out]; exact HR2.out.putq HD2.out (by decide) hq1, by rw [HM.out]; exact HD2.out.put 0 _, whole_put HC2.out hq3 _, only_putq HO2.out hq4 _⟩
        case measure => simp [intOf]; omega
      · have HM := hide (marks_2 xs s1)
        have HN := hide (marks_1 xs s1)
        rw [HN.out] at HR HD m0 m1
        simp only at HD m0 m1
        go_wp2_with fail
        refine (takerune_s g xs _ wr HR.out hb hl).mono ?_
        rintro e w2 ⟨rfl, ho2, hr2⟩
        have HD2 := hide (HD.out.far ho2 (Ne.symm hq1))
        have HC2 := hide (HC.out.far ho2 (Ne.symm hq2))
        have HO2 := hide (HO.out.trans ho2)
        have HR2 := hide hr2
        have y0 := HD2.out.frozen 1
        have x0 := HD2.out.cell 1
        simp only [List.getElem?_cons_zero, List.getElem?_cons_succ] at x0
        have l2 := HD2.out.lt
        clear ho2 hr2 m0 m1
        go_wp2
        go_roundw
        case rel => exact ⟨2, by omega, rfl, by rw [HM.out]; exact HR2.out.putq HD2.out (by decide) hq1, by rw [HM.out]; exact HD2.out.put 1 _, whole_put HC2.out hq3 _, only_putq HO2.out hq4 _⟩
        case measure => simp [intOf]; omega
    · obtain rfl : k = K := by omega
      have HB := hide (marks_ok xs s1 k hK)
      obtain ⟨⟨t1, m, n, ok⟩, hM⟩ : ∃ M, marksD xs s1 (k : Int) = M := ⟨_, rfl⟩
      rw [hM] at HB HR HD ⊢
      simp only at HB
      have HM := hide hM
      obtain ⟨bq, hbq⟩ : ∃ bq, decide ((0 : Int) ∈ [m, n].take k) = bq := ⟨_, rfl⟩
      rw [hbq] at HB
      have HBQ := hide hbq
      clear hbq
      have HKL : Hid (([m, n].take k).length = k) := by unfold Hid; rw [List.length_take]; simp; omega
      have HI : Hid (Ints .i32 wr.drew (some ⟨q, 0, none⟩) ([m, n].take k)) := ints_two HD.out.drew k
      have m0 : wr.cell? ⟨q, 0, none⟩ = some (.int .i32 m) := HD.out.cell 0
      have m1 : wr.cell? ⟨q, 1, none⟩ = some (.int .i32 n) := HD.out.cell 1
      have z0 : wr.frozen? ⟨w.heap.size, 0, none⟩ = false := HC.out.frozen 0
      have z1 : wr.frozen? ⟨w.heap.size, 1, none⟩ = false := HC.out.frozen 1
      have d0 : wr.cell? ⟨w.heap.size, 0, none⟩ = some (.int .i32 0) := HC.out.cell 0
      have d1 : wr.cell? ⟨w.heap.size, 1, none⟩ = some (.int .i32 0) := HC.out.cell 1
      clear hM hlt
      go_wp2
      refine wp_region_chainL (fun w' => w'.cell? ⟨q, 0, none⟩ = some (.int .i32 m) ∧ w'.cell? ⟨q, 1, none⟩ = some (.int .i32 n)) 4 [(0, 1), (0, 0), (1, 2), (2, 3), (3, 4), (3, 5)] (by kernel_rfl) (by kernel_rfl) (by kernel_rfl) (fun _ _ _ _ _ h => h) ?_ ?_
      · exact ⟨m0, m1⟩
      refine chainL_take (v := ?_) (by simp only [List.getElem?_toArray, List.getElem?_cons_zero, List.getElem?_cons_succ]; rfl) (by rfl) (fun w hS => ?_) ?_
      rotate_left
      · go_simp <;> with_reducible rfl
      simp only [Act.put, List.setIfInBounds_toArray, List.set_cons_zero, List.set_cons_succ]
      refine chainL_take (v := ?_) (by simp only [List.getElem?_toArray, List.getElem?_cons_zero]; rfl) (by rfl) (fun w hS => ?_) ?_
      rotate_left
      · obtain ⟨s0, s1⟩ := hS; go_simp <;> with_reducible rfl
      simp only [Act.put, List.setIfInBounds_toArray, List.set_cons_zero, List.set_cons_succ]
      refine chainL_alone (by simp only [List.getElem?_toArray, List.getElem?_cons_zero, List.getElem?_cons_succ]; rfl) ?_
      intro K hK
      go_wp2_with fail
      refine (containsr_any _ k 2 ([m, n].take k) 0 _ HI.out HKL.out (by omega)).mono ?_
      rintro e w7 ⟨rfl, rfl⟩
      rw [HBQ.out]
      go_wp2
      refine hK.out _ _ (⟨m0, m1⟩) ?_
      clear hK K
      refine chainL_pure (v := ?_) (by simp only [List.getElem?_toArray, List.getElem?_cons_zero, List.getElem?_cons_succ]; rfl) (by rfl) (fun w => ?_) ?_
      rotate_left
      · go_simp <;> with_reducible rfl
      simp only [Act.put, List.setIfInBounds_toArray, List.set_cons_zero, List.set_cons_succ]
      refine chainL_late (by simp only [List.getElem?_toArray, List.getElem?_cons_zero, List.getElem?_cons_succ]; rfl) ?_
      intro K hK
      go_wp2
      refine hK.out _ _ ?_
      clear hK K
      refine chainL_late (by simp only [List.getElem?_toArray, List.getElem?_cons_zero, List.getElem?_cons_succ]; rfl) ?_
      intro K hK
      go_wp2
      refine hK.out _ _ ?_
      clear hK K
      refine chainL_nil ?_
      go_wp2
      refine ret22 (v := .bool ok) Tryz.results105 rfl (congrArg Value.bool HB.out) rfl (((HC.out.put 0 _).put 1 _).drew) ?_
      rw [HM.out]
      exact ⟨rfl, only_drewN (only_putq (only_putq HO.out (Nat.le_refl _) _) (Nat.le_refl _) _) 1, ((HR.out.putq HC.out (by decide) hq2).putq (HC.out.put 0 _) (by decide) hq2).later ((Below.refl _ _).drewN 1)⟩
end
end Go.Proofs.YtcbdokocnjoilaaGreatDoor
