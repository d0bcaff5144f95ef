/-
  Acts one behind the other: what is carried along.
-/
import Derived.Test.YtiifeniijcnahaaGreatDoorGKnown
namespace Go.Proofs.YtiifeniijcnahaaGreatDoor
set_option maxRecDepth 100000
open Go.ChangeShapes Go.WideShapes Go.ChangeAt Go.RowKit
set_option linter.unusedVariables false

/-- Both grids, behind what the law has done so far. -/
structure One (w0 w : World) (G L M R C : Nat) (g : Gd) (Q : Nat) (A : Option Addr) (cap : Nat) : Prop where
  p : Pair w0.heap.size w G L M R C g Q A cap
  sp : Spans w
  bel : Below w0.heap.size w0 w
  pos : 0 < w0.heap.size
section
variable {w0 w w' : World} {G L M R C : Nat} {g : Gd} {Q : Nat} {A : Option Addr} {cap : Nat}
theorem One.later (h : One w0 w G L M R C g Q A cap) (hb : Below w.heap.size w w') : One w0 w' G L M R C g Q A cap := ⟨h.p.later hb, h.sp.below hb, h.bel.trans (hb.mono h.bel.size), h.pos⟩
theorem One.drew (h : One w0 w G L M R C g Q A cap) : One w0 w.drew G L M R C g Q A cap := h.later ((Below.refl _ _).drewN 1)
theorem Pair.turned {B : Nat} (h : Pair B w G L M R C g Q A cap) (ht : Trn G L M w w') : Whole w' Q 32 [.slice A R cap, .int .i64 (g.row : Int), .int .i64 (g.col : Int)] := by
  obtain ⟨cap0, ps0, room0, more0, ha⟩ := h.grd
  exact ht.whole h.q (h.q.ne ha.top (by decide)) (h.q.ne ha.lines (by decide)) (h.q.ne ha.piece (by decide))
/-- Behind an act: the next grids. -/
theorem One.next (h : One w0 w G L M R C g Q A cap) {g' : Gd} {R' C' G' L' M' : Nat} {A' : Option Addr} {cap' : Nat} (hg : Grd w' G' L' M' R' C' g') (hl : Lns w' A' g'.ls) (hok : GOk g' R' C') (ht : Trn G L M w w')
    (hG : G' = G ∨ w.heap.size ≤ G') (hL : L' = L ∨ w.heap.size ≤ L') (hM : M' = M ∨ w.heap.size ≤ M') :
    One w0 (((w'.setCell ⟨Q, 0, none⟩ (.slice A' R' cap')).setCell ⟨Q, 1, none⟩ (.int .i64 (g'.row : Int))).setCell ⟨Q, 2, none⟩ (.int .i64 (g'.col : Int))) G' L' M' R' C' g' Q A' cap' := by
  have hq := h.p.turned ht
  have h1 := h.p.hG
  have h2 := h.p.hL
  have h3 := h.p.hM
  have h4 := h.p.hQ
  have h5 := h.bel.size
  have h6 := h.pos
  exact ⟨⟨hg.put3 hq _ _ _, hok, put3 hq _ _ _, hl.put3 hq (by decide) (by decide) _ _ _, by rcases hG with q | q <;> omega, by rcases hL with q | q <;> omega, by rcases hM with q | q <;> omega, h4⟩,
    (h.sp.turn h.p.grd h.p.ok.r1 ht).put3 (by omega) _ _ _, below_put3 (ht.below h.bel h5 h1 h2 h3) h4 _ _ _, h.pos⟩
/-- Another pair, meanwhile. -/
theorem One.other (h : One w0 w G L M R C g Q A cap) {G2 L2 M2 R2 C2 : Nat} {g2 : Gd} {Q2 : Nat} {A2 : Option Addr} {cap2 : Nat} (h2 : Pair w0.heap.size w G2 L2 M2 R2 C2 g2 Q2 A2 cap2) (hne : G2 ≠ G ∧ L2 ≠ L ∧ M2 ≠ M) (hq : Q2 ≠ Q) (ht : Trn G L M w w') (x0 x1 x2 : Value) :
    Pair w0.heap.size (((w'.setCell ⟨Q, 0, none⟩ x0).setCell ⟨Q, 1, none⟩ x1).setCell ⟨Q, 2, none⟩ x2) G2 L2 M2 R2 C2 g2 Q2 A2 cap2 :=
  (h2.far h.p.grd ht hne).put3 (h.p.turned ht) hq _ _ _
theorem apart_next {B : Nat} {G2 L2 M2 R2 C2 : Nat} {g2 : Gd} {Q2 : Nat} {A2 : Option Addr} {cap2 : Nat} (h2 : Pair B w G2 L2 M2 R2 C2 g2 Q2 A2 cap2) (hne : G2 ≠ G ∧ L2 ≠ L ∧ M2 ≠ M) {G' L' M' : Nat} (hG : G' = G ∨ w.heap.size ≤ G') (hL : L' = L ∨ w.heap.size ≤ L') (hM : M' = M ∨ w.heap.size ≤ M') : G2 ≠ G' ∧ L2 ≠ L' ∧ M2 ≠ M' := by
  have h1 := h2.grd.ltG
  have h3 := h2.grd.ltL
  have h4 := h2.grd.ltM
  obtain ⟨n1, n2, n3⟩ := hne
  refine ⟨?_, ?_, ?_⟩
  · rcases hG with q | q <;> omega
  · rcases hL with q | q <;> omega
  · rcases hM with q | q <;> omega
end
theorem sizeN_small {r c : Int} (h : sizeN r c) : ∃ R C : Nat, r = (R : Int) ∧ c = (C : Int) ∧ 1 ≤ R ∧ R ≤ 512 ∧ 1 ≤ C ∧ C ≤ 512 := by
  obtain ⟨⟨h1, h2⟩, h3, h4⟩ := h
  exact ⟨r.toNat, c.toNat, by omega, by omega, by omega, by omega, by omega, by omega⟩
end Go.Proofs.YtiifeniijcnahaaGreatDoor
