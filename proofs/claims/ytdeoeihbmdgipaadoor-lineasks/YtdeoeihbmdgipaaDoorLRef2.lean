/-
  Contracts: the document's Mend, Erase, Fit.
-/
import Derived.Test.YtdeoeihbmdgipaaDoorLRef
namespace Go.Proofs.YtdeoeihbmdgipaaDoor
open Go.ChangeShapes Go.WideShapes Go.ChangeAt Go.RowKit
set_option linter.unusedVariables false

/-- 'append(row, c)', the new block's number under a name. -/
theorem wpList_pushQ {P : Program} {S e : TypeId} {k : IntKind} {bytes : Nat} (E : ElemC P S e k bytes) {ops : Array Oper} {rest : List Oper} {o : Oper} {a : Act} {Q : Exit → Act → World → Prop} {B : Nat} {w wr : World} {v : Value} {cs : List Cel} (c : Cel) (q : Nat)
    (hgd : Region.wanted o (yielded ops a.tmps) = true) (s y : Operand) (ho : o.op = .call { callee := .builtin .append, args := #[s, y], argTypes := #[S, S] })
    (hs : a.eval s = v) (hy : a.eval y = .slice (some ⟨q, 0, none⟩) 1 1) (hown : OwnC e k B w wr v cs) (hq : q = wr.heap.size) (hlen : cs.length ≤ 1000000) (hby : bytes ≤ 1000)
    (h : ∀ v' w1, OwnC e k B w w1 v' (cs ++ [c]) → wpList P ops Q rest (a.put o.dst v') w1) : wpList P ops Q (o :: rest) a (wr.alloc (.cells #[.int k c.r, .int k c.m, .int k c.n, .int .u8 (c.w : Int), .int .u8 (c.p.f : Int), .int .u8 (c.p.g : Int), .int .u8 (c.p.b : Int)] e)) := by
  subst hq
  exact wpList_pushC E c hgd s y ho hs hy hown hlen hby h
set_option maxRecDepth 100000 in
set_option maxHeartbeats 400000 in
theorem rmend_any (A : Option Addr) (n c : Nat) (cs : List Cel) (w : World) (h : Cels .i64 w A cs) (hn : cs.length = n) (hl : n ≤ 1000000) : Calls Tryd.prog 21 #[.slice A n c] w (MadeC 38 .i64 w (mendC cs)) := by
  have HC := hide h
  have HN := hide hn
  clear h hn
  go_enter Tryd.func21, Tryd.ntmps21
  go_wp2
  go_loopw [3, 4, 5] (fun v i _ wr => ∃ k : Nat, k ≤ n ∧ i = .int .i64 k ∧ OwnC 38 .i64 w.heap.size w wr v (tab k (mendAt cs))) (fun _ i _ _ => n - (intOf i).toNat)
  case atStart => exact ⟨0, Nat.zero_le _, rfl, OwnC.start (Nat.le_refl _)⟩
  case round =>
    obtain ⟨k, hk, rfl, hown⟩ := hrel
    have HV := hide hown
    clear hown
    by_cases hlt : k < n
    · obtain ⟨b1, o1, rfl, l1, -⟩ := HC.out.at (i := k) (by rw [HN.out]; exact hlt)
      obtain ⟨⟨r, x, y, z, ⟨f, g, b⟩⟩, hc⟩ : ∃ q, cAt cs k = q := ⟨_, rfl⟩
      obtain ⟨a0, a1, a2, a3, a4, a5, a6, -⟩ := (HC.out.below HV.out.bel).sevenC k (by rw [HN.out]; exact hlt) hc
      have HK := hide hc
      obtain ⟨W1, hW1⟩ : ∃ W1, wr.alloc (.cells #[.int .i64 r, .int .i64 x, .int .i64 y, .int .u8 (z : Int), .int .u8 (f : Int), .int .u8 (g : Int), .int .u8 (b : Int)] 38) = W1 := ⟨_, rfl⟩
      have HA : Hid (Whole W1 wr.heap.size 38 [.int .i64 r, .int .i64 x, .int .i64 y, .int .u8 (z : Int), .int .u8 (f : Int), .int .u8 (g : Int), .int .u8 (b : Int)]) := by unfold Hid; rw [← hW1]; exact Whole.new wr 38 [.int .i64 r, .int .i64 x, .int .i64 y, .int .u8 (z : Int), .int .u8 (f : Int), .int .u8 (g : Int), .int .u8 (b : Int)]
      have HV1 : Hid (OwnC 38 .i64 w.heap.size w W1 u3 (tab k (mendAt cs))) := by unfold Hid; rw [← hW1]; exact HV.out.alloc _
      have HBB : Hid (Below wr.heap.size wr W1) := by unfold Hid; rw [← hW1]; exact (Below.refl _ _).alloc (Nat.le_refl _) _
      have HW1 := hide hW1
      clear hc hW1
      go_wp2_with fail
      rw [HW1.out]
      refine (ralone_any (some ⟨b1, o1, none⟩) n c k cs W1 (HC.out.below HV1.out.bel) HN.out hlt hl).mono ?_
      rintro e w1 ⟨rfl, rfl⟩
      clear a0 a1 a2 a3 a4 a5 a6
      obtain ⟨a0, a1, a2, a3, a4, a5, a6, -⟩ := cells7 HA.out
      cases hal : aloneC cs k
      case false =>
        have HM := hide (mendAt_no cs k hal)
        rw [HK.out] at HM
        clear hal
        go_wp2_with (at_builtin; refine stopw ?_)
        unfold Hid
        refine wpList_pushC elemLC ⟨r, x, y, z, ⟨f, g, b⟩⟩ rfl _ _ rfl rfl rfl (HV1.out) (by rw [tab_len]; omega) (by omega) ?_
        intro v' wn hn1
        have HV' := hide (hn1.snoc HM.out)
        clear hn1 a0 a1 a2 a3 a4 a5 a6
        go_wp2
        go_roundw
        case rel => exact ⟨k + 1, by omega, by go_num, HV'.out⟩
        case measure => simp [intOf]; omega
      case true =>
        have HM := hide (mendAt_yes cs k hal)
        rw [HK.out] at HM
        clear hal
        go_wp2_with fail
        refine (rblank_v f g b W1).mono ?_
        rintro e w2 ⟨rfl, hb2⟩
        have HB2 := hide (HBB.out.trans (hb2.mono HBB.out.size))
        have HA2 := hide (HA.out.later hb2)
        clear a0 a1 a2 a3 a4 a5 a6 hb2
        obtain ⟨a0, a1, a2, a3, a4, a5, a6, a7⟩ := cells7 HA2.out
        go_wp2_with (at_builtin; refine stopw ?_)
        unfold Hid
        refine wpList_pushQ elemLC ⟨32, 0, 0, 1, ⟨f, g, b⟩⟩ (w2.heap.size) rfl _ _ rfl rfl rfl (HV.out.later (below_put7 HB2.out (Nat.le_refl _) _ _ _ _ _ _ _)) (by simp) (by rw [tab_len]; omega) (by omega) ?_
        intro v' wn hn1
        have HV' := hide (hn1.snoc HM.out)
        clear hn1 a0 a1 a2 a3 a4 a5 a6 a7
        go_wp2
        go_roundw
        case rel => exact ⟨k + 1, by omega, by go_num, HV'.out⟩
        case measure => simp [intOf]; omega
    · obtain rfl : k = n := by omega
      go_wp2
      go_ret
      exact ⟨_, rfl, by unfold mendC; rw [HN.out]; exact HV.out⟩
end Go.Proofs.YtdeoeihbmdgipaaDoor
