/-
  Bytes in rows, events and rows of events that came in, opened.
-/
import Derived.Test.YtfngnmopdfojmaaPMem
import Derived.Test.YtfngnmopdfojmaaRow
import Derived.Test.YtfngnmopdfojmaaOpens
import Derived.ShutString
import Derived.ChangeOld
import Derived.Below
import Derived.Lib.SmallJoins
namespace Go.Proofs.Ytfngnmopdfojmaa
set_option maxRecDepth 100000
open Go.ChangeShapes Go.WideShapes Go.ChangeAt Go.RowKit Go.Joins
set_option linter.unusedVariables false

/-- Rows of bytes that came in. -/
def Bss (w : World) (a : Option Addr) (len : Nat) : Prop := len = 0 ∨ ∃ (b off : Nat), a = some ⟨b, off, none⟩ ∧ ∀ i, i < len → ∃ A n c zs, w.cell? ⟨b, off + i, none⟩ = some (.slice A n c) ∧ IsRow .u8 w A n c zs
/-- An event that came in. -/
structure EvIn (w : World) (k r : Int) (A : Option Addr) (n c : Nat) (zs : List Int) : Prop where
  row : IsRow .i64 w A n c zs
  r0 : -2147483648 ≤ r
  r1 : r ≤ 2147483647
/-- Rows of events that came in. -/
def EvsIn (w : World) (a : Option Addr) (len : Nat) : Prop := len = 0 ∨ ∃ (b off : Nat), a = some ⟨b, off, none⟩ ∧ ∀ i, i < len → ∃ k r A n c zs, w.cell? ⟨b, off + i * 3, none⟩ = some (.int .i64 k) ∧ w.cell? ⟨b, off + i * 3 + 1, none⟩ = some (.int .i32 r) ∧ w.cell? ⟨b, off + i * 3 + 2, none⟩ = some (.slice A n c) ∧ EvIn w k r A n c zs

theorem structEv : ∃ f0 f1 f2 : Field, Try.prog.underlying 56 = some (.struct #[f0, f1, f2]) ∧ (f0.type = 3 ∧ f1.type = 21 ∧ f2.type = 34) ∧ (f0.offset = 0 ∧ f1.offset = 1 ∧ f2.offset = 2) :=
  ⟨_, _, _, Try.underlying56, ⟨rfl, rfl, rfl⟩, ⟨rfl, rfl, rfl⟩⟩
theorem sizeEv : Try.prog.cellsOf 56 = 3 := by kernel_rfl
theorem sizeInts : Try.prog.cellsOf 34 = 1 := by kernel_rfl
theorem sizeBytes : Try.prog.cellsOf 35 = 1 := by kernel_rfl
theorem sizeI64 : Try.prog.cellsOf 3 = 1 := by kernel_rfl
theorem sizeI32 : Try.prog.cellsOf 21 = 1 := by kernel_rfl
theorem i32_bd {a : Int} (h : (Lit.int .i32 a).wf = true) : -2147483648 ≤ a ∧ a ≤ 2147483647 := by
  simpa [Lit.wf, IntKind.min, IntKind.max, IntKind.signed, IntKind.bits] using h
section
variable {H : Type} {enc : TypeId × Value → H} {w : World} {base : Nat} {held : Bool}
theorem cells_ints {fuel : Nat} {v : Value} {x : DataW H × List MemPlace} (h : DataW.trod enc Try.prog w base (fun _ => true) held fuel 34 [v] = some x) : ∃ a len cap zs, v = .slice a len cap ∧ IsRow .i64 w a len cap zs := by
  rcases open_ints Try.underlying34 Try.underlying3 (by kernel_rfl) h with ⟨hcs, _⟩ | ⟨x, l, c, zs, hcs, _, hl, hm, hz, _, hcell, hwz⟩
  · obtain rfl : v = .slice none 0 0 := by simpa using hcs
    exact ⟨none, 0, 0, [], rfl, .inl ⟨rfl, rfl, rfl, rfl⟩⟩
  · obtain rfl : v = .slice (some x) l c := by simpa using hcs
    exact ⟨some x, l, c, zs, rfl, .inr ⟨_, rfl, hl, hm, by simpa using hz, hcell, hwz⟩⟩
theorem cells_bytes {fuel : Nat} {v : Value} {x : DataW H × List MemPlace} (h : DataW.trod enc Try.prog w base (fun _ => true) held fuel 35 [v] = some x) : ∃ a len cap zs, v = .slice a len cap ∧ IsRow .u8 w a len cap zs := by
  rcases open_ints Try.underlying35 Try.underlying5 (by kernel_rfl) h with ⟨hcs, _⟩ | ⟨x, l, c, zs, hcs, _, hl, hm, hz, _, hcell, hwz⟩
  · obtain rfl : v = .slice none 0 0 := by simpa using hcs
    exact ⟨none, 0, 0, [], rfl, .inl ⟨rfl, rfl, rfl, rfl⟩⟩
  · obtain rfl : v = .slice (some x) l c := by simpa using hcs
    exact ⟨some x, l, c, zs, rfl, .inr ⟨_, rfl, hl, hm, by simpa using hz, hcell, hwz⟩⟩
theorem cells_ev {fuel : Nat} {cs : List Value} {x : DataW H × List MemPlace} (hlen : cs.length = 3) (h : DataW.trod enc Try.prog w base (fun _ => true) held fuel 56 cs = some x) :
    ∃ k r A n c zs, cs = [.int .i64 k, .int .i32 r, .slice A n c] ∧ EvIn w k r A n c zs := by
  obtain ⟨c0, c1, c2, rfl⟩ : ∃ c0 c1 c2, cs = [c0, c1, c2] := by
    match cs, hlen with
    | [c0, c1, c2], _ => exact ⟨c0, c1, c2, rfl⟩
  obtain ⟨f0, f1, f2, hu, ⟨e0, e1, e2⟩, o0, o1, o2⟩ := structEv
  obtain ⟨xs, n, _, rfl, hl, hxl, hf⟩ := DataW.trod_struct hu h
  match xs, hxl with
  | [y0, y1, y2], _ =>
    have g0 := hf 0 f0 rfl
    have g1 := hf 1 f1 rfl
    have g2 := hf 2 f2 rfl
    rw [e0, o0, sizeI64] at g0
    rw [e1, o1, sizeI32] at g1
    rw [e2, o2, sizeInts] at g2
    simp only [List.drop_zero, List.drop_succ_cons, List.take_succ_cons, List.take_zero, List.getElem?_cons_zero, List.getElem?_cons_succ] at g0 g1 g2
    obtain ⟨n0, k0, r0, w0⟩ := DataW.trod_int Try.underlying3 g0
    obtain ⟨n1, k1, r1, w1⟩ := DataW.trod_int Try.underlying21 g1
    obtain ⟨A, len, cap, zs, k2, w2⟩ := cells_ints g2
    simp only [List.cons.injEq, and_true] at k0 k1
    subst k0 k1 k2
    exact ⟨n0, n1, A, len, cap, zs, rfl, w2, (i32_bd w1).1, (i32_bd w1).2⟩
theorem open_event {r : Reach} {b0 : Nat} {v : Value} {x : DataW H} {p : List MemPlace} (hv : Value.okWide Try.prog w r b0 56 v) (h : DataW.Trod enc Try.prog w base (fun _ => true) held 56 v x p) :
    ∃ k r A n c zs, v = .agg #[.int .i64 k, .int .i32 r, .slice A n c] ∧ EvIn w k r A n c zs := by
  obtain ⟨f0, f1, f2, hu, -⟩ := structEv
  obtain ⟨cs, rfl, hsz⟩ := okWide_struct hu hv
  obtain ⟨fuel, hf⟩ := h
  obtain ⟨k, r, A, n, c, zs, e, ok⟩ := cells_ev (by rw [Value.cells, Array.length_toList, hsz, sizeEv]) hf
  refine ⟨k, r, A, n, c, zs, ?_, ok⟩
  have : cs = [Value.int .i64 k, .int .i32 r, .slice A n c].toArray := by rw [← e]; simp [Value.cells]
  rw [this]
theorem open_events {a : Option Addr} {len cap : Nat} {x : DataW H} {p : List MemPlace} (h : DataW.Trod enc Try.prog w base (fun _ => true) held 44 (.slice a len cap) x p) : EvsIn w a len ∧ len ≤ cap ∧ cap ≤ maxLen ∧ (a = none → cap = 0) := by
  obtain ⟨fuel, hf⟩ := h
  rcases Deep.open_slice Try.underlying44 hf with ⟨hcs, _⟩ | ⟨ad, l, c, m, n, D, Pl, hcs, hb, hl, hm, hmm, _, hel⟩
  · simp [Value.cells] at hcs
    obtain ⟨rfl, rfl, rfl⟩ := hcs
    exact ⟨.inl rfl, Nat.le_refl _, Nat.zero_le _, fun _ => rfl⟩
  · simp [Value.cells] at hcs
    obtain ⟨rfl, rfl, rfl⟩ := hcs
    refine ⟨?_, hl, by first | exact hm | exact hb | omega, (fun h => by cases h)⟩
    have hlm : len ≤ m := by rw [hmm]; split <;> omega
    rw [sizeEv] at hel
    have each : ∀ i, i < len → ∃ k r A n c zs, EvIn w k r A n c zs ∧ ∀ d v, ([.int .i64 k, .int .i32 r, .slice A n c] : List Value)[d]? = some v → w.cell? ((ad.add (i * 3)).add d) = some v := by
      intro i hi
      obtain ⟨cs', h1, h2⟩ := hel i (by omega)
      obtain ⟨-, h3, h4⟩ := World.cells?_some h1
      obtain ⟨k, r, A, n, c, zs, e, ok⟩ := cells_ev h3 h2
      refine ⟨k, r, A, n, c, zs, ok, fun d v hv => ?_⟩
      have hd : d < 3 := (List.getElem?_eq_some_iff.1 hv).1
      rw [h4 d hd, e]
      exact hv
    by_cases h0 : len = 0
    · exact .inl h0
    · obtain ⟨_, _, _, _, _, _, _, hc0⟩ := each 0 (by omega)
      have hs : ad.spot = none := by
        have := World.cell?_spot (hc0 0 _ rfl)
        simpa [Addr.add] using this
      obtain ⟨b, off, spot⟩ := ad
      simp only at hs
      subst hs
      have hadd : ∀ i j, ((⟨b, off, none⟩ : Addr).add i).add j = ⟨b, off + i + j, none⟩ := by
        intro i j
        have e1 : ∀ (o q : Nat), (⟨b, o, none⟩ : Addr).add q = ⟨b, o + q, none⟩ := fun o q => by unfold Addr.add; split <;> simp_all
        rw [e1, e1]
      refine .inr ⟨b, off, rfl, fun i hi => ?_⟩
      obtain ⟨k, r, A, n, c, zs, ok, hc⟩ := each i hi
      have h0 := hc 0 _ rfl
      have h1 := hc 1 _ rfl
      have h2 := hc 2 _ rfl
      rw [hadd] at h0 h1 h2
      exact ⟨k, r, A, n, c, zs, h0, h1, h2, ok⟩
theorem open_bytess {a : Option Addr} {len cap : Nat} {x : DataW H} {p : List MemPlace} (h : DataW.Trod enc Try.prog w base (fun _ => true) held 22 (.slice a len cap) x p) : Bss w a len ∧ len ≤ cap := by
  obtain ⟨fuel, hf⟩ := h
  rcases Deep.open_slice Try.underlying22 hf with ⟨hcs, _⟩ | ⟨ad, l, c, m, n, D, Pl, hcs, hb, hl, hm, hmm, _, hel⟩
  · simp [Value.cells] at hcs
    obtain ⟨rfl, rfl, rfl⟩ := hcs
    exact ⟨.inl rfl, Nat.le_refl _⟩
  · simp [Value.cells] at hcs
    obtain ⟨rfl, rfl, rfl⟩ := hcs
    refine ⟨?_, hl⟩
    have hlm : len ≤ m := by rw [hmm]; split <;> omega
    rw [sizeBytes] at hel
    have each : ∀ i, i < len → ∃ A n c zs, IsRow .u8 w A n c zs ∧ w.cell? ((ad.add (i * 1)).add 0) = some (.slice A n c) := by
      intro i hi
      obtain ⟨cs', h1, h2⟩ := hel i (by omega)
      obtain ⟨-, h3, h4⟩ := World.cells?_some h1
      obtain ⟨v, rfl⟩ : ∃ v, cs' = [v] := by
        match cs', h3 with
        | [v], _ => exact ⟨v, rfl⟩
      obtain ⟨A, n, c, zs, rfl, ok⟩ := cells_bytes h2
      exact ⟨A, n, c, zs, ok, h4 0 (by omega)⟩
    by_cases h0 : len = 0
    · exact .inl h0
    · obtain ⟨_, _, _, _, _, hc0⟩ := each 0 (by omega)
      have hs : ad.spot = none := by
        have := World.cell?_spot hc0
        simpa [Addr.add] using this
      obtain ⟨b, off, spot⟩ := ad
      simp only at hs
      subst hs
      have hadd : ∀ i j, ((⟨b, off, none⟩ : Addr).add i).add j = ⟨b, off + i + j, none⟩ := by
        intro i j
        have e1 : ∀ (o q : Nat), (⟨b, o, none⟩ : Addr).add q = ⟨b, o + q, none⟩ := fun o q => by unfold Addr.add; split <;> simp_all
        rw [e1, e1]
      refine .inr ⟨b, off, rfl, fun i hi => ?_⟩
      obtain ⟨A, n, c, zs, ok, hc⟩ := each i hi
      rw [hadd, Nat.mul_one, Nat.add_zero] at hc
      exact ⟨A, n, c, zs, hc, ok⟩
end
end Go.Proofs.Ytfngnmopdfojmaa
