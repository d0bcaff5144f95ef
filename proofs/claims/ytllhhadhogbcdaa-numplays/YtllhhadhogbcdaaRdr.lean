/-
  Contracts of the reader's methods.
-/
import Derived.Test.YtllhhadhogbcdaaRow
import Derived.Test.YtllhhadhogbcdaaMem
namespace Go.Proofs.Ytllhhadhogbcdaa
open Go.ChangeShapes Go.WideShapes Go.ChangeAt Go.RowKit

/-- A reader at block g: what is left, the place, the error. -/
structure Reads (w : World) (g : Nat) (bs : List Int) (pl er : Int) : Prop where
  ex : ∃ A cap, Whole w g 72 [.slice A bs.length cap, .int .i64 pl, .int .i64 er] ∧ Ints .u8 w A bs ∧ bs.length ≤ cap ∧ (A = none → cap = 0)

theorem no_u8 (A : Option Addr) (n c : Nat) (pl er : Int) : ∀ x, Value.int .u8 x ∉ [.slice A n c, .int .i64 pl, .int .i64 er] := by intro x; simp

set_option maxHeartbeats 400000 in
theorem stopped_no (g : Nat) (bs : List Int) (pl : Int) (w : World) (h : Reads w g bs pl 0) :
    Calls Try.prog 42 #[.pointer (some ⟨g, 0, none⟩)] w fun e w' => e = .returned (.bool false) ∧ w = w' := by
  obtain ⟨A, c, hw, _⟩ := h.ex
  have hc := hw.cell 2
  simp only [List.getElem?_cons_succ, List.getElem?_cons_zero] at hc
  clear h hw
  go_enter Try.func42, Try.ntmps42
  go_wp2
  go_ret
  exact ⟨rfl, rfl⟩

set_option maxHeartbeats 400000 in
theorem stopped_yes (g : Nat) (bs : List Int) (pl er : Int) (w : World) (h : Reads w g bs pl er) (he : er ≠ 0) :
    Calls Try.prog 42 #[.pointer (some ⟨g, 0, none⟩)] w fun e w' => e = .returned (.bool true) ∧ w = w' := by
  obtain ⟨A, c, hw, _⟩ := h.ex
  have hc := hw.cell 2
  simp only [List.getElem?_cons_succ, List.getElem?_cons_zero] at hc
  have hb : (er != 0) = true := by simpa using he
  clear h hw he
  go_enter Try.func42, Try.ntmps42
  go_wp2
  go_ret
  exact ⟨rfl, rfl⟩

/-- What is behind a reader's first two cells being set anew. -/
theorem reads_skip {w : World} {g : Nat} {A A' : Option Addr} {n n' c c' : Nat} {pl er pl' : Int} {bs : List Int} (hw : Whole w g 72 [.slice A n c, .int .i64 pl, .int .i64 er])
    (hi : Ints .u8 w A' bs) (hn : n' = bs.length) (hc : n' ≤ c') (hA : A' = none → c' = 0) :
    Only g w ((w.setCell ⟨g, 0, none⟩ (.slice A' n' c')).setCell ⟨g, 1, none⟩ (.int .i64 pl')) ∧ Reads ((w.setCell ⟨g, 0, none⟩ (.slice A' n' c')).setCell ⟨g, 1, none⟩ (.int .i64 pl')) g bs pl' er := by
  subst hn
  have ho : Only g w ((w.setCell ⟨g, 0, none⟩ (.slice A' bs.length c')).setCell ⟨g, 1, none⟩ (.int .i64 pl')) := (Only.put 0 _).trans (Only.put 1 _)
  refine ⟨ho, ⟨A', c', ?_, ho.ints hi hw (no_u8 _ _ _ _ _), hc, hA⟩⟩
  simpa using (hw.put 0 (.slice A' bs.length c')).put 1 (.int .i64 pl')
/-- .. and behind its error being set. -/
theorem reads_fail {w : World} {g : Nat} {pl er x : Int} {bs : List Int} (h : Reads w g bs pl er) : Only g w (w.setCell ⟨g, 2, none⟩ (.int .i64 x)) ∧ Reads (w.setCell ⟨g, 2, none⟩ (.int .i64 x)) g bs pl x := by
  obtain ⟨A, c, hw, hi, hc, hA⟩ := h.ex
  have ho : Only g w (w.setCell ⟨g, 2, none⟩ (.int .i64 x)) := Only.put 2 _
  exact ⟨ho, ⟨A, c, by simpa using hw.put 2 (.int .i64 x), ho.ints hi hw (no_u8 _ _ _ _ _), hc, hA⟩⟩

set_option maxHeartbeats 400000 in
theorem skip_any (g : Nat) (bs : List Int) (pl er : Int) (n : Nat) (w : World) (h : Reads w g bs pl er) (hn : n ≤ bs.length) (h0 : 0 ≤ pl) (h1 : pl ≤ 1000000) (h2 : bs.length ≤ 1000000) :
    Calls Try.prog 43 #[.pointer (some ⟨g, 0, none⟩), .int .i64 n] w fun e w' => e = .returned (.tuple #[]) ∧ Only g w w' ∧ Reads w' g (bs.drop n) (pl + n) er := by
  obtain ⟨A, c, hw, hi, hc, hA⟩ := h.ex
  have c0 := hw.cell 0
  have c1 := hw.cell 1
  have f0 := hw.frozen 0
  have f1 := hw.frozen 1
  simp only [List.getElem?_cons_succ, List.getElem?_cons_zero] at c0 c1
  have hnc : n ≤ c := by omega
  have HA := hide hA
  clear h hA
  by_cases hcn : c = n
  · subst hcn
    go_enter Try.func43, Try.ntmps43
    go_wp2
    go_end0
    refine ⟨rfl, ?_⟩
    exact reads_skip (bs := bs.drop c) hw (by rw [List.drop_eq_nil_of_le (by omega)]; exact .nil) (by simp; omega) (by omega) (fun _ => rfl)
  · go_enter Try.func43, Try.ntmps43
    go_wp2
    go_end0
    refine ⟨rfl, ?_⟩
    exact reads_skip (bs := bs.drop n) hw (hi.drop n) (by simp) (by omega) (fun e => by have := HA.out (by simpa using e); omega)

theorem above_under (p q : Nat) (most : Int) (N : Nat) (w : World) (hp : w.cell? ⟨p, 0, none⟩ = some (.int .i64 most))
    (h0 : 0 ≤ most) (h1 : most ≤ 9223372036854775807) (hN : (N : Int) ≤ most) :
    Calls Try.prog 44 #[.int .u64 N, .pointer (some ⟨p, 0, none⟩), .pointer (some ⟨q, 0, none⟩)] w fun e w' => e = .returned (.int .i64 0) ∧ w = w' := by
  go_enter Try.func44, Try.ntmps44
  go_wp2
  go_ret
  exact ⟨rfl, rfl⟩
theorem above_over (p q : Nat) (most er : Int) (N : Nat) (w : World) (hp : w.cell? ⟨p, 0, none⟩ = some (.int .i64 most)) (hq : w.cell? ⟨q, 0, none⟩ = some (.int .i64 er))
    (h1 : most ≤ 9223372036854775807) (hN : most < 0 ∨ most < (N : Int)) :
    Calls Try.prog 44 #[.int .u64 N, .pointer (some ⟨p, 0, none⟩), .pointer (some ⟨q, 0, none⟩)] w fun e w' => e = .returned (.int .i64 er) ∧ w = w' := by
  by_cases h0 : most < 0
  · clear hN
    go_enter Try.func44, Try.ntmps44
    go_wp2
    go_ret
    exact ⟨rfl, rfl⟩
  · have hN' : most < (N : Int) := by omega
    have h0' : 0 ≤ most := by omega
    clear hN h0
    go_enter Try.func44, Try.ntmps44
    go_wp2
    go_ret
    exact ⟨rfl, rfl⟩

/-- What a reader's call leaves: the value, the reader. -/
def Gives (g : Nat) (w : World) (v : Value) (bs : List Int) (pl er : Int) (e : Ending) (w' : World) : Prop := e = .returned v ∧ Only g w w' ∧ Reads w' g bs pl er

set_option maxHeartbeats 400000 in
theorem next_stop (g : Nat) (bs : List Int) (pl er : Int) (f : Value) (w : World) (h : Reads w g bs pl er) (he : er ≠ 0) :
    Calls Try.prog 39 #[.pointer (some ⟨g, 0, none⟩), f] w (Gives g w (.int .u64 0) bs pl er) := by
  have H := hide h
  have HE := hide he
  clear h he
  go_enter Try.func39, Try.ntmps39
  go_wp2_with fail
  refine (stopped_yes g bs pl er _ H.out HE.out).mono ?_
  rintro e w' ⟨rfl, rfl⟩
  go_wp2
  go_ret
  exact ⟨rfl, Only.refl, H.out⟩

theorem reads_cells {w : World} {g : Nat} {bs : List Int} {pl er : Int} (h : Reads w g bs pl er) : ∃ A c, w.cell? ⟨g, 0, none⟩ = some (.slice A bs.length c) ∧ w.cell? ⟨g, 1, none⟩ = some (.int .i64 pl) ∧ w.cell? ⟨g, 2, none⟩ = some (.int .i64 er) ∧
    w.frozen? ⟨g, 0, none⟩ = false ∧ w.frozen? ⟨g, 1, none⟩ = false ∧ w.frozen? ⟨g, 2, none⟩ = false ∧ Ints .u8 w A bs ∧ bs.length ≤ c ∧ (A = none → c = 0) := by
  obtain ⟨A, c, hw, hi, hc, hA⟩ := h.ex
  exact ⟨A, c, by simpa using hw.cell 0, by simpa using hw.cell 1, by simpa using hw.cell 2, hw.frozen 0, hw.frozen 1, hw.frozen 2, hi, hc, hA⟩

set_option maxHeartbeats 1000000 in
theorem next_bad (g : Nat) (bs : List Int) (pl x : Int) (f : Value) (w : World) (h : Reads w g bs pl 0) (hb : Byte bs) (hl : bs.length ≤ 1000000) (hr : rd 0 0 bs = (0, 0, x)) (hx : x ≠ 0) :
    Calls Try.prog 39 #[.pointer (some ⟨g, 0, none⟩), f] w (Gives g w (.int .u64 0) bs pl x) := by
  obtain ⟨A, c, c0, c1, c2, f0, f1, f2, hi, hc, hA⟩ := reads_cells h
  have H := hide h
  have HR := hide hr
  have hx1 : (x == 0) = false := by simpa using hx
  have hx2 : (x != 0) = true := by simpa using hx
  clear h hr hx hA
  go_enter Try.func39, Try.ntmps39
  go_wp2_with fail
  refine (stopped_no g bs pl _ H.out).mono ?_
  rintro e w' ⟨rfl, rfl⟩
  go_wp2_with fail
  refine (read_any A _ c bs w hi rfl hl hb).mono ?_
  rintro e w' ⟨rfl, rfl⟩
  rw [HR.out]
  go_wp2
  go_ret
  exact ⟨rfl, reads_fail H.out⟩

set_option maxHeartbeats 1000000 in
theorem number_ok (g : Nat) (bs : List Int) (pl : Int) (N n : Nat) (w : World) (h : Reads w g bs pl 0) (hb : Byte bs) (hl : bs.length ≤ 1000000) (hr : rd 0 0 bs = ((N : Int), (n : Int), 0)) (hn : n ≤ bs.length)
    (h0 : 0 ≤ pl) (h1 : pl ≤ 1000000) : Calls Try.prog 39 #[.pointer (some ⟨g, 0, none⟩), .func (.func 40) #[] #[]] w (Gives g w (.int .u64 N) (bs.drop n) (pl + n) 0) := by
  obtain ⟨A, c, c0, c1, c2, f0, f1, f2, hi, hc, hA⟩ := reads_cells h
  have H := hide h
  have HR := hide hr
  clear h hr hA
  go_enter Try.func39, Try.ntmps39
  go_wp2_with fail
  refine (stopped_no g bs pl _ H.out).mono ?_
  rintro e w' ⟨rfl, rfl⟩
  go_wp2_with fail
  refine (read_any A _ c bs w hi rfl hl hb).mono ?_
  rintro e w' ⟨rfl, rfl⟩
  rw [HR.out]
  go_wp2_with (first | (go_at_call 40; go_in))
  refine (skip_any g bs pl 0 n w H.out hn h0 h1 hl).mono ?_
  rintro e w' ⟨rfl, ho, hr⟩
  go_wp2
  go_ret
  exact ⟨rfl, ho, hr⟩

set_option maxHeartbeats 1000000 in
theorem next_under (g p q : Nat) (bs : List Int) (pl most : Int) (N n : Nat) (w : World) (h : Reads w g bs pl 0) (hb : Byte bs) (hl : bs.length ≤ 1000000) (hr : rd 0 0 bs = ((N : Int), (n : Int), 0)) (hn : n ≤ bs.length)
    (h0 : 0 ≤ pl) (h1 : pl ≤ 1000000) (hp : w.cell? ⟨p, 0, none⟩ = some (.int .i64 most)) (m0 : 0 ≤ most) (m1 : most ≤ 9223372036854775807) (hN : (N : Int) ≤ most) :
    Calls Try.prog 39 #[.pointer (some ⟨g, 0, none⟩), .func (.func 44) #[] #[.pointer (some ⟨p, 0, none⟩), .pointer (some ⟨q, 0, none⟩)]] w (Gives g w (.int .u64 N) (bs.drop n) (pl + n) 0) := by
  obtain ⟨A, c, c0, c1, c2, f0, f1, f2, hi, hc, hA⟩ := reads_cells h
  have H := hide h
  have HR := hide hr
  clear h hr hA
  go_enter Try.func39, Try.ntmps39
  go_wp2_with fail
  refine (stopped_no g bs pl _ H.out).mono ?_
  rintro e w' ⟨rfl, rfl⟩
  go_wp2_with fail
  refine (read_any A _ c bs w hi rfl hl hb).mono ?_
  rintro e w' ⟨rfl, rfl⟩
  rw [HR.out]
  go_wp2_with fail
  refine (above_under p q most N w hp m0 m1 hN).mono ?_
  rintro e w' ⟨rfl, rfl⟩
  go_wp2_with fail
  refine (skip_any g bs pl 0 n w H.out hn h0 h1 hl).mono ?_
  rintro e w' ⟨rfl, ho, hr⟩
  go_wp2
  go_ret
  exact ⟨rfl, ho, hr⟩

set_option maxHeartbeats 1000000 in
theorem next_over (g p q : Nat) (bs : List Int) (pl most er : Int) (N n : Nat) (w : World) (h : Reads w g bs pl 0) (hb : Byte bs) (hl : bs.length ≤ 1000000) (hr : rd 0 0 bs = ((N : Int), (n : Int), 0))
    (hp : w.cell? ⟨p, 0, none⟩ = some (.int .i64 most)) (hq : w.cell? ⟨q, 0, none⟩ = some (.int .i64 er)) (m1 : most ≤ 9223372036854775807) (hN : most < 0 ∨ most < (N : Int)) (he : er ≠ 0) :
    Calls Try.prog 39 #[.pointer (some ⟨g, 0, none⟩), .func (.func 44) #[] #[.pointer (some ⟨p, 0, none⟩), .pointer (some ⟨q, 0, none⟩)]] w (Gives g w (.int .u64 0) bs pl er) := by
  obtain ⟨A, c, c0, c1, c2, f0, f1, f2, hi, hc, hA⟩ := reads_cells h
  have H := hide h
  have HR := hide hr
  have hx2 : (er != 0) = true := by simpa using he
  have HN := hide hN
  clear h hr hA he hN
  go_enter Try.func39, Try.ntmps39
  go_wp2_with fail
  refine (stopped_no g bs pl _ H.out).mono ?_
  rintro e w' ⟨rfl, rfl⟩
  go_wp2_with fail
  refine (read_any A _ c bs w hi rfl hl hb).mono ?_
  rintro e w' ⟨rfl, rfl⟩
  rw [HR.out]
  go_wp2_with fail
  refine (above_over p q most er N w hp hq m1 HN.out).mono ?_
  rintro e w' ⟨rfl, rfl⟩
  go_wp2
  go_ret
  exact ⟨rfl, reads_fail H.out⟩

/-! The document's reader as plain functions: the bytes, the place, the error. -/
def nAt (xs : List Int) (t : Nat) (E : Int) : Nat := if E = 0 then t + (rd 0 0 (xs.drop t)).2.1.toNat else t
def nEr (xs : List Int) (t : Nat) (E : Int) : Int := if E = 0 then (rd 0 0 (xs.drop t)).2.2 else E
def nVal (xs : List Int) (t : Nat) (E : Int) : Int := if E = 0 then (rd 0 0 (xs.drop t)).1 else 0
def over (most v : Int) : Bool := decide (most < 0 ∨ most < v)
def uAt (xs : List Int) (t : Nat) (E most : Int) : Nat := if nEr xs t E = 0 ∧ over most (nVal xs t E) = true then t else nAt xs t E
def uEr (xs : List Int) (t : Nat) (E most er : Int) : Int := if nEr xs t E = 0 ∧ over most (nVal xs t E) = true then er else nEr xs t E
def uVal (xs : List Int) (t : Nat) (E most : Int) : Int := if nEr xs t E = 0 ∧ over most (nVal xs t E) = true then 0 else nVal xs t E

theorem byte_drop {xs : List Int} (h : Byte xs) (t : Nat) : Byte (xs.drop t) := fun x hx => h x (List.mem_of_mem_drop hx)

set_option maxHeartbeats 400000 in
theorem number_any (g : Nat) (xs : List Int) (t : Nat) (E : Int) (w : World) (h : Reads w g (xs.drop t) t E) (hb : Byte xs) (hl : xs.length ≤ 1000) (ht : t ≤ xs.length) :
    Calls Try.prog 23 #[.pointer (some ⟨g, 0, none⟩)] w (Gives g w (.int .u64 (nVal xs t E)) (xs.drop (nAt xs t E)) (nAt xs t E) (nEr xs t E)) := by
  have hd : (xs.drop t).length ≤ 1000 := by rw [List.length_drop]; omega
  have key : Calls Try.prog 39 #[.pointer (some ⟨g, 0, none⟩), .func (.func 40) #[] #[]] w (Gives g w (.int .u64 (nVal xs t E)) (xs.drop (nAt xs t E)) (nAt xs t E) (nEr xs t E)) := by
    unfold nVal nAt nEr
    by_cases hE : E = 0
    · subst hE
      rcases rd_cases (xs.drop t) (byte_drop hb t) with hr | hr | ⟨N, n, hr, hN, hn, _⟩
      · have := next_bad g (xs.drop t) t 3 (.func (.func 40) #[] #[]) w h (byte_drop hb t) (by omega) hr (by omega)
        simpa [hr] using this
      · have := next_bad g (xs.drop t) t 4 (.func (.func 40) #[] #[]) w h (byte_drop hb t) (by omega) hr (by omega)
        simpa [hr] using this
      · have := number_ok g (xs.drop t) t N n w h (byte_drop hb t) (by omega) hr hn (by omega) (by omega)
        simpa [hr, List.drop_drop] using this
    · have := next_stop g (xs.drop t) t E (.func (.func 40) #[] #[]) w h hE
      simpa [hE] using this
  have KEY := hide key
  clear key h
  go_enter Try.func23, Try.ntmps23
  go_wp2_with fail
  refine KEY.out.mono ?_
  rintro e w' ⟨rfl, ho, hr⟩
  go_wp2
  go_ret
  exact ⟨rfl, ho, hr⟩
end Go.Proofs.Ytllhhadhogbcdaa
