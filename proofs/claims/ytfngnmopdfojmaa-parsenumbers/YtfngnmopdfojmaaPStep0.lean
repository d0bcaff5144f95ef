/-
  Contracts of the document's own answers: a byte's step: laws.
-/
import Derived.Test.YtfngnmopdfojmaaPRef2
import Derived.Test.YtfngnmopdfojmaaChainT
import Derived.Test.YtfngnmopdfojmaaChainL
namespace Go.Proofs.Ytfngnmopdfojmaa
set_option maxRecDepth 100000
open Go.ChangeShapes Go.WideShapes Go.ChangeAt Go.RowKit
set_option linter.unusedVariables false

theorem Fr.whole {B g : Nat} {w w' : World} {b : Nat} {t : TypeId} {l : List Value} (h : Fr B g w w') (hw : Whole w b t l) (hb : b < B) (hne : ¬ b = g) : Whole w' b t l := hw.same (h.block b hb hne)
/-- 'append(row, src...)': the row's own block alone, and what is new, has turned. -/
theorem wpList_catEg {P : Program} {S te : TypeId} {k : IntKind} {bytes : Nat} (E : ElemE P S te k bytes) {ops : Array Oper} {rest : List Oper} {o : Oper} {a : Act} {Q : Exit → Act → World → Prop} {C B : Nat} {w wr : World} {v : Value} {es ns : List Ev} {A : Option Addr} {n c : Nat}
    (hgd : Region.wanted o (yielded ops a.tmps) = true) (s y : Operand) (ho : o.op = .call { callee := .builtin .append, args := #[s, y], argTypes := #[S, S] })
    (hs : a.eval s = v) (hy : a.eval y = .slice A n c) (hown : OwnE C te k B w wr v es) (hns : Evs C te k wr A ns) (hn : ns.length = n) (hc : A = none → c = 0) (hlen : es.length + n ≤ 1000000) (hby : bytes ≤ 1000) (h3 : te ≠ 3)
    (h : ∀ v' w1, OwnE C te k B w w1 v' (es ++ ns) → wr.grownBy w1 v.ownBlock → wpList P ops Q rest (a.put o.dst v') w1) : wpList P ops Q (o :: rest) a wr := by
  subst hn
  obtain ⟨i0, hi, hz0, hz1, hz2⟩ := info_parts E.info
  obtain ⟨l, he, hrow, hok⟩ := hown.row
  obtain ⟨m, rfl, hmok, hm⟩ := hns
  rw [List.length_map] at *
  have hl : l.length = es.length := by rw [← he, List.length_map]
  have hb : (l.length + m.length) * bytes ≤ 1000000 * 1000 := Nat.mul_le_mul (by omega) hby
  refine wpList_want hgd fun K hK => ?_
  cases A with
  | none =>
    have hn : m = [] := by
      rcases hm with h | ⟨_, _, h, _⟩
      · exact h
      · cases h
    subst hn
    obtain rfl : c = 0 := hc rfl
    have hrun := run_append_owned_none (P := P) (w := wr) B S o.type te i0 3 E.under hi v l.length _ hrow
    unfold Oper.wp
    simp [execOp, ho, resolve, invoke, builtin, hs, hy, hrun, Result.andThen]
    exact hK _ _ (h v wr (by simpa using hown) ⟨rfl, rfl, rfl, Nat.le_refl _, fun _ _ _ => rfl⟩)
  | some ad =>
    refine wp_append_own _ s y S ho B te i0 _ 3 bytes E.under hi hz0 hz1 hz2 rfl (by decide) v l.length _ hs hrow ad m.length c (flatE k m) hy (flatE_len k m) ?_ (flatE_one k m)
      (by unfold maxLen; omega) (by omega) hown.le ?_
    · intro j u hu
      rcases hm with rfl | ⟨b, off, e1, _, hcell⟩
      · simp [flatE] at hu
      · cases e1
        rw [show (⟨b, off, none⟩ : Addr).add j = ⟨b, off + j, none⟩ by unfold Addr.add; split <;> simp_all]
        exact hcell j u hu
    · intro v' w1 h1 hg _
      exact hK _ _ (h v' w1 (hown.grown (ns := m) he hrow hok hmok h3 h1 hg).1 hg)

end Go.Proofs.Ytfngnmopdfojmaa
