/-
  Contracts: the law's Cut and Of; the document's New, Mend, Erase, Fit.
  Contracts: the document's Mend, Erase, Fit.
  Contracts: the document's Erase and Fit.
  Contracts: the document's Put and Mark.
  Contracts: is a line the document's (the law's Same); the chapter's example.
  The contracts once more, as the laws' walks want them; numbers that fit stay so.
-/
import Derived.Test.YtiifeniijcnahaaGreatDoorLna
import Derived.Test.YtiifeniijcnahaaGreatDoorCeb
import Derived.Test.YtiifeniijcnahaaGreatDoorLnb
namespace Go.Proofs.YtiifeniijcnahaaGreatDoor
set_option maxRecDepth 100000
open Go.ChangeShapes Go.WideShapes Go.ChangeAt Go.RowKit
set_option linter.unusedVariables false

/-- A cell's numbers fit. -/
def CelB (c : Cel) : Prop := R32 c.r ∧ R32 c.m ∧ R32 c.n ∧ c.w < 256
def LB (cs : List Cel) : Prop := ∀ i, i < cs.length → CelB (cAt cs i)
/-- The call made a row of these cells, and left all that was there. -/
def MadeC (t : TypeId) (k : IntKind) (w : World) (cs : List Cel) (e : Ending) (w' : World) : Prop := ∃ v, e = .returned v ∧ OwnC t k w.heap.size w w' v cs
set_option maxRecDepth 100000 in
set_option maxHeartbeats 1000000 in
theorem lcut_any (A : Option Addr) (n c : Nat) (cs : List Cel) (w : World) (h : Cels .i32 w A cs) (hn : n ≤ cs.length) (hc : A = none → c = 0) (hnc : n ≤ c) : Calls Tryz.prog 41 #[.slice A n c] w (MadeC 40 .i32 w (cs.take (min n 30))) := by
  obtain ⟨m, hm⟩ : ∃ m, min n 30 = m := ⟨_, rfl⟩
  have em : min (n : Int) 30 = (m : Int) := by omega
  have hm1 : m ≤ c := by omega
  have hm2 : m ≤ 30 := by omega
  have HC := hide ((h.take m).alloc (.cells #[] 40))
  have HA := hide hc
  have HL : Hid ((cs.take m).length = m) := by unfold Hid; rw [List.length_take]; omega
  have HM := hide hm
  clear h hn hc hm hnc
  go_enter Tryz.func41, Tryz.ntmps41
  go_wp2_with (at_builtin; refine stopw ?_)
  unfold Hid
  refine wpList_catC elemL rfl _ _ rfl rfl rfl (OwnC.empty w 40 .i32) HC.out HL.out HA.out (by simp; omega) (by omega) ?_
  intro v' w1 hown
  simp only [List.nil_append] at hown
  have HV := hide hown
  clear hown
  go_wp2
  go_ret
  exact ⟨_, rfl, by rw [HM.out]; exact HV.out⟩
theorem OwnC.snoc {e : TypeId} {k : IntKind} {B : Nat} {w wr : World} {v : Value} {n : Nat} {F : Nat → Cel} {c : Cel} (h : OwnC e k B w wr v (tab n F ++ [c])) (hF : F n = c) : OwnC e k B w wr v (tab (n + 1) F) := by rw [tab_snoc, hF]; exact h
theorem take_cAt (cs : List Cel) (k : Nat) (h : k < cs.length) : cs.take (k + 1) = cs.take k ++ [cAt cs k] := by
  rw [List.take_succ_eq_append_getElem h]
  congr 2
  exact Option.some.inj ((List.getElem?_eq_getElem h).symm.trans (get_cAt cs k h))
set_option maxRecDepth 100000 in
set_option maxHeartbeats 2000000 in
theorem lineof_any (A : Option Addr) (n c : Nat) (cs : List Cel) (w : World) (h : Cels .i32 w A cs) (hn : cs.length = n) (hl : n ≤ 1000000) (hb : LB cs) : Calls Tryz.prog 43 #[.slice A n c] w (MadeC 52 .i64 w cs) := by
  have HC := hide h
  have HN := hide hn
  have HLB := hide hb
  clear h hn hb
  go_enter Tryz.func43, Tryz.ntmps43
  go_wp2
  go_loopw [3, 4] (fun v i wr => ∃ k : Nat, k ≤ n ∧ i = .int .i64 k ∧ OwnC 52 .i64 w.heap.size w wr v (cs.take k)) (fun _ i _ => n - (intOf i).toNat)
  case atStart => exact ⟨0, Nat.zero_le _, rfl, OwnC.start (Nat.le_refl _)⟩
  case round =>
    obtain ⟨k, hk, rfl, hown⟩ := hrel
    have HV := hide hown
    clear hown
    by_cases hlt : k < n
    · obtain ⟨b1, o1, rfl, l1, -⟩ := HC.out.at (i := k) (by rw [HN.out]; exact hlt)
      have hcb := HLB.out k (by rw [HN.out]; exact hlt)
      have HT := hide (take_cAt cs k (by rw [HN.out]; exact hlt))
      obtain ⟨⟨r, x, y, z, ⟨f, g, b⟩⟩, hc⟩ : ∃ q, cAt cs k = q := ⟨_, rfl⟩
      rw [hc] at hcb HT
      obtain ⟨hr, hx, hy, -⟩ := hcb
      obtain ⟨u0, u1, u2, u3, u4, u5, u6, -⟩ := (HC.out.below HV.out.bel).sevenC k (by rw [HN.out]; exact hlt) hc
      clear hc
      go_wp2_with fail
      refine (lof_v r x y z f g b hr hx hy wr).mono ?_
      rintro e w1 ⟨rfl, hb1⟩
      have HV1 := hide (HV.out.later hb1)
      clear hb1 u0 u1 u2 u3 u4 u5 u6
      go_wp2_with (at_builtin; refine stopw ?_)
      unfold Hid
      refine wpList_pushC elemLC ⟨r, x, y, z, ⟨f, g, b⟩⟩ rfl _ _ rfl rfl rfl HV1.out (by rw [List.length_take]; omega) (by omega) ?_
      intro v' wn hn1
      rw [← HT.out] at hn1
      have HV' := hide hn1
      clear hn1 hr hx hy
      go_wp2
      go_roundw
      case rel => exact ⟨k + 1, by omega, by go_num, HV'.out⟩
      case measure => simp [intOf]; omega
    · go_wp2
      go_ret
      exact ⟨_, rfl, by have q := HV.out; rwa [List.take_of_length_le (by rw [HN.out]; omega)] at q⟩
set_option maxHeartbeats 1000000 in
theorem length_any (x : Int) (w : World) : Calls Tryz.prog 73 #[.int .i64 x] w fun e w' => e = .returned (.int .i64 (lenN x : Int)) ∧ w = w' := by
  by_cases h0 : x < 0
  · have H : Hid ((lenN x : Int) = 0) := by unfold Hid lenN; omega
    go_enter Tryz.func73, Tryz.ntmps73
    go_wp2
    go_ret
    exact ⟨ret_int H.out.symm, rfl⟩
  · by_cases h1 : 512 < x
    · have H : Hid ((lenN x : Int) = 512) := by unfold Hid lenN; omega
      go_enter Tryz.func73, Tryz.ntmps73
      go_wp2
      go_ret
      exact ⟨ret_int H.out.symm, rfl⟩
    · have H : Hid ((lenN x : Int) = x) := by unfold Hid lenN; omega
      go_enter Tryz.func73, Tryz.ntmps73
      go_wp2
      go_ret
      exact ⟨ret_int H.out.symm, rfl⟩
set_option maxRecDepth 100000 in
set_option maxHeartbeats 2000000 in
theorem rnew_any (x : Int) (w : World) : Calls Tryz.prog 36 #[.int .i64 x] w (MadeC 52 .i64 w (newC x)) := by
  obtain ⟨N, hN⟩ : ∃ N, lenN x = N := ⟨_, rfl⟩
  have hl : N ≤ 512 := by rw [← hN]; exact lenN_le x
  have HN := hide hN
  clear hN
  go_enter Tryz.func36, Tryz.ntmps36
  go_wp2
  go_loopw [3, 4] (fun v i wr => ∃ k : Nat, k ≤ N ∧ i = .int .i64 k ∧ OwnC 52 .i64 w.heap.size w wr v (tab k (fun _ => blankC zeroP))) (fun _ i _ => N - (intOf i).toNat)
  case atStart => exact ⟨0, Nat.zero_le _, rfl, OwnC.start (Nat.le_refl _)⟩
  case round =>
    obtain ⟨k, hk, rfl, hown⟩ := hrel
    have HV := hide hown
    clear hown
    go_wp2_with fail
    refine (length_any x wr).mono ?_
    rintro e w1 ⟨rfl, rfl⟩
    rw [HN.out]
    by_cases hlt : k < N
    · go_wp2_with fail
      refine (rblank_v 0 0 0 wr).mono ?_
      rintro e w1 ⟨rfl, hb1⟩
      have HV1 := hide (HV.out.later hb1)
      clear hb1
      go_wp2_with (at_builtin; refine stopw ?_)
      unfold Hid
      refine wpList_pushC elemLC (blankC zeroP) rfl _ _ rfl rfl rfl HV1.out (by rw [tab_len]; omega) (by omega) ?_
      intro v' wn hn1
      have HV' : Hid (OwnC 52 .i64 w.heap.size w wn v' (tab (k + 1) (fun _ => blankC zeroP))) := by unfold Hid; rw [tab_snoc]; exact hn1
      clear hn1
      go_wp2
      go_roundw
      case rel => exact ⟨k + 1, by omega, by go_num, HV'.out⟩
      case measure => simp [intOf]; omega
    · obtain rfl : k = N := by omega
      go_wp2
      go_ret
      exact ⟨_, rfl, by unfold newC; rw [HN.out]; exact HV.out⟩
end Go.Proofs.YtiifeniijcnahaaGreatDoor

namespace Go.Proofs.YtiifeniijcnahaaGreatDoor
set_option maxRecDepth 100000
open Go.ChangeShapes Go.WideShapes Go.ChangeAt Go.RowKit
set_option linter.unusedVariables false

/-- 'append(row, c)', the new block's number under a name. -/
theorem wpList_pushQ {P : Program} {S e : TypeId} {k : IntKind} {bytes : Nat} (E : ElemC P S e k bytes) {ops : Array Oper} {rest : List Oper} {o : Oper} {a : Act} {Q : Exit → Act → World → Prop} {B : Nat} {w wr : World} {v : Value} {cs : List Cel} (c : Cel) (q : Nat)
    (hgd : Region.wanted o (yielded ops a.tmps) = true) (s y : Operand) (ho : o.op = .call { callee := .builtin .append, args := #[s, y], argTypes := #[S, S] })
    (hs : a.eval s = v) (hy : a.eval y = .slice (some ⟨q, 0, none⟩) 1 1) (hown : OwnC e k B w wr v cs) (hq : q = wr.heap.size) (hlen : cs.length ≤ 1000000) (hby : bytes ≤ 1000)
    (h : ∀ v' w1, OwnC e k B w w1 v' (cs ++ [c]) → wpList P ops Q rest (a.put o.dst v') w1) : wpList P ops Q (o :: rest) a (wr.alloc (.cells #[.int k c.r, .int k c.m, .int k c.n, .int .u8 (c.w : Int), .int .u8 (c.p.f : Int), .int .u8 (c.p.g : Int), .int .u8 (c.p.b : Int)] e)) := by
  subst hq
  exact wpList_pushC E c hgd s y ho hs hy hown hlen hby h
set_option maxRecDepth 100000 in
set_option maxHeartbeats 400000 in
theorem rmend_any (A : Option Addr) (n c : Nat) (cs : List Cel) (w : World) (h : Cels .i64 w A cs) (hn : cs.length = n) (hl : n ≤ 1000000) : Calls Tryz.prog 101 #[.slice A n c] w (MadeC 52 .i64 w (mendC cs)) := by
  have HC := hide h
  have HN := hide hn
  clear h hn
  go_enter Tryz.func101, Tryz.ntmps101
  go_wp2
  go_loopw [3, 4, 5] (fun v i _ wr => ∃ k : Nat, k ≤ n ∧ i = .int .i64 k ∧ OwnC 52 .i64 w.heap.size w wr v (tab k (mendAt cs))) (fun _ i _ _ => n - (intOf i).toNat)
  case atStart => exact ⟨0, Nat.zero_le _, rfl, OwnC.start (Nat.le_refl _)⟩
  case round =>
    obtain ⟨k, hk, rfl, hown⟩ := hrel
    have HV := hide hown
    clear hown
    by_cases hlt : k < n
    · obtain ⟨b1, o1, rfl, l1, -⟩ := HC.out.at (i := k) (by rw [HN.out]; exact hlt)
      obtain ⟨⟨r, x, y, z, ⟨f, g, b⟩⟩, hc⟩ : ∃ q, cAt cs k = q := ⟨_, rfl⟩
      obtain ⟨a0, a1, a2, a3, a4, a5, a6, -⟩ := (HC.out.below HV.out.bel).sevenC k (by rw [HN.out]; exact hlt) hc
      have HK := hide hc
      obtain ⟨W1, hW1⟩ : ∃ W1, wr.alloc (.cells #[.int .i64 r, .int .i64 x, .int .i64 y, .int .u8 (z : Int), .int .u8 (f : Int), .int .u8 (g : Int), .int .u8 (b : Int)] 52) = W1 := ⟨_, rfl⟩
      have HA : Hid (Whole W1 wr.heap.size 52 [.int .i64 r, .int .i64 x, .int .i64 y, .int .u8 (z : Int), .int .u8 (f : Int), .int .u8 (g : Int), .int .u8 (b : Int)]) := by unfold Hid; rw [← hW1]; exact Whole.new wr 52 [.int .i64 r, .int .i64 x, .int .i64 y, .int .u8 (z : Int), .int .u8 (f : Int), .int .u8 (g : Int), .int .u8 (b : Int)]
      have HV1 : Hid (OwnC 52 .i64 w.heap.size w W1 u3 (tab k (mendAt cs))) := by unfold Hid; rw [← hW1]; exact HV.out.alloc _
      have HBB : Hid (Below wr.heap.size wr W1) := by unfold Hid; rw [← hW1]; exact (Below.refl _ _).alloc (Nat.le_refl _) _
      have HW1 := hide hW1
      clear hc hW1
      go_wp2_with fail
      rw [HW1.out]
      refine (ralone_any (some ⟨b1, o1, none⟩) n c k cs W1 (HC.out.below HV1.out.bel) HN.out hlt hl).mono ?_
      rintro e w1 ⟨rfl, rfl⟩
      clear a0 a1 a2 a3 a4 a5 a6
      obtain ⟨a0, a1, a2, a3, a4, a5, a6, -⟩ := cells7 HA.out
      cases hal : aloneC cs k
      case false =>
        have HM := hide (mendAt_no cs k hal)
        rw [HK.out] at HM
        clear hal
        go_wp2_with (at_builtin; refine stopw ?_)
        unfold Hid
        refine wpList_pushC elemLC ⟨r, x, y, z, ⟨f, g, b⟩⟩ rfl _ _ rfl rfl rfl (HV1.out) (by rw [tab_len]; omega) (by omega) ?_
        intro v' wn hn1
        have HV' := hide (hn1.snoc HM.out)
        clear hn1 a0 a1 a2 a3 a4 a5 a6
        go_wp2
        go_roundw
        case rel => exact ⟨k + 1, by omega, by go_num, HV'.out⟩
        case measure => simp [intOf]; omega
      case true =>
        have HM := hide (mendAt_yes cs k hal)
        rw [HK.out] at HM
        clear hal
        go_wp2_with fail
        refine (rblank_v f g b W1).mono ?_
        rintro e w2 ⟨rfl, hb2⟩
        have HB2 := hide (HBB.out.trans (hb2.mono HBB.out.size))
        have HA2 := hide (HA.out.later hb2)
        clear a0 a1 a2 a3 a4 a5 a6 hb2
        obtain ⟨a0, a1, a2, a3, a4, a5, a6, a7⟩ := cells7 HA2.out
        go_wp2_with (at_builtin; refine stopw ?_)
        unfold Hid
        refine wpList_pushQ elemLC ⟨32, 0, 0, 1, ⟨f, g, b⟩⟩ (w2.heap.size) rfl _ _ rfl rfl rfl (HV.out.later (below_put7 HB2.out (Nat.le_refl _) _ _ _ _ _ _ _)) (by simp) (by rw [tab_len]; omega) (by omega) ?_
        intro v' wn hn1
        have HV' := hide (hn1.snoc HM.out)
        clear hn1 a0 a1 a2 a3 a4 a5 a6 a7
        go_wp2
        go_roundw
        case rel => exact ⟨k + 1, by omega, by go_num, HV'.out⟩
        case measure => simp [intOf]; omega
    · obtain rfl : k = n := by omega
      go_wp2
      go_ret
      exact ⟨_, rfl, by unfold mendC; rw [HN.out]; exact HV.out⟩
end Go.Proofs.YtiifeniijcnahaaGreatDoor

namespace Go.Proofs.YtiifeniijcnahaaGreatDoor
set_option maxRecDepth 100000
open Go.ChangeShapes Go.WideShapes Go.ChangeAt Go.RowKit
set_option linter.unusedVariables false

theorem OwnC.from {e : TypeId} {k : IntKind} {B : Nat} {w w1 wr : World} {v : Value} {cs : List Cel} (h : OwnC e k w1.heap.size w1 wr v cs) (hb : Below B w w1) (hB : B ≤ w1.heap.size) : OwnC e k B w wr v cs := by
  refine ⟨⟨h.own.1, ?_⟩, hb.trans (h.bel.mono hB), Nat.le_trans hB h.le⟩
  rcases h.own.2 with h0 | ⟨g, cap, cur, hv, hg, h1⟩
  · exact .inl h0
  · exact .inr ⟨g, cap, cur, hv, Nat.le_trans hB hg, h1⟩
def eraseAt (cs : List Cel) (x y : Int) (p : Pn) (i : Nat) : Cel := if x ≤ (i : Int) ∧ (i : Int) < y then blankC p else cAt cs i
theorem eraseTab_is (cs : List Cel) (x y : Int) (p : Pn) : eraseTab cs x y p = tab cs.length (eraseAt cs x y p) := rfl
theorem eraseAt_no {cs : List Cel} {x y : Int} {p : Pn} {i : Nat} (h : ¬ (x ≤ (i : Int) ∧ (i : Int) < y)) : eraseAt cs x y p i = cAt cs i := by unfold eraseAt; rw [if_neg h]
theorem eraseAt_yes {cs : List Cel} {x y : Int} {p : Pn} {i : Nat} (h : x ≤ (i : Int) ∧ (i : Int) < y) : eraseAt cs x y p i = blankC p := by unfold eraseAt; rw [if_pos h]
def fitAt (cs : List Cel) (i : Nat) : Cel := if i < cs.length then cAt cs i else blankC zeroP
theorem fitTab_is (cs : List Cel) (n : Int) : fitTab cs n = tab (lenN n) (fitAt cs) := rfl
theorem fitAt_yes {cs : List Cel} {i : Nat} (h : i < cs.length) : fitAt cs i = cAt cs i := by unfold fitAt; rw [if_pos h]
theorem fitAt_no {cs : List Cel} {i : Nat} (h : ¬ i < cs.length) : fitAt cs i = ⟨32, 0, 0, 1, ⟨0, 0, 0⟩⟩ := by unfold fitAt; rw [if_neg h]; rfl
set_option maxRecDepth 100000 in
set_option maxHeartbeats 1000000 in
theorem rerase_any (A : Option Addr) (n c : Nat) (X Y : Int) (F G B : Nat) (cs : List Cel) (w : World) (h : Cels .i64 w A cs) (hn : cs.length = n) (hl : n ≤ 1000000) :
    Calls Tryz.prog 81 #[.slice A n c, .int .i64 X, .int .i64 Y, .agg #[.int .u8 (F : Int), .int .u8 (G : Int), .int .u8 (B : Int)]] w (MadeC 52 .i64 w (eraseC cs X Y ⟨F, G, B⟩)) := by
  have HN := hide hn
  obtain ⟨W0, hW0⟩ : ∃ W0, w.alloc (.cells #[.int .u8 (F : Int), .int .u8 (G : Int), .int .u8 (B : Int)] 50) = W0 := ⟨_, rfl⟩
  have HB0 : Hid (Below w.heap.size w W0) := by unfold Hid; rw [← hW0]; exact (Below.refl _ _).alloc (Nat.le_refl _) _
  have HP0 : Hid (Whole W0 w.heap.size 50 [.int .u8 (F : Int), .int .u8 (G : Int), .int .u8 (B : Int)]) := by unfold Hid; rw [← hW0]; exact Whole.new w 50 [.int .u8 (F : Int), .int .u8 (G : Int), .int .u8 (B : Int)]
  have HC : Hid (Cels .i64 W0 A cs) := by unfold Hid; rw [← hW0]; exact h.alloc _
  have HW0 := hide hW0
  clear h hn hW0
  go_enter Tryz.func81, Tryz.ntmps81
  go_wp2
  rw [HW0.out]
  go_loopw [9, 10, 11] (fun v i _ wr => ∃ k : Nat, k ≤ n ∧ i = .int .i64 k ∧ OwnC 52 .i64 W0.heap.size W0 wr v (tab k (eraseAt cs X Y ⟨F, G, B⟩))) (fun _ i _ _ => n - (intOf i).toNat)
  case atStart => exact ⟨0, Nat.zero_le _, rfl, OwnC.start (Nat.le_refl _)⟩
  case round =>
    obtain ⟨k, hk, rfl, hown⟩ := hrel
    have HV := hide hown
    clear hown
    by_cases hlt : k < n
    · obtain ⟨b1, o1, rfl, l1, -⟩ := HC.out.at (i := k) (by rw [HN.out]; exact hlt)
      obtain ⟨⟨r, x, y, z, ⟨f, g, b⟩⟩, hc⟩ : ∃ q, cAt cs k = q := ⟨_, rfl⟩
      obtain ⟨a0, a1, a2, a3, a4, a5, a6, -⟩ := (HC.out.below HV.out.bel).sevenC k (by rw [HN.out]; exact hlt) hc
      have HK := hide hc
      clear hc
      have cases3 : (X ≤ (k : Int) ∧ (k : Int) < Y) ∨ (k : Int) < X ∨ (X ≤ (k : Int) ∧ Y ≤ (k : Int)) := by omega
      rcases cases3 with ⟨h1, h2⟩ | h1 | ⟨h1, h2⟩
      · have HM := hide (eraseAt_yes (cs := cs) (p := ⟨F, G, B⟩) ⟨h1, h2⟩)
        obtain ⟨p0, p1, p2, pl⟩ := cells3 (HP0.out.later HV.out.bel)
        obtain ⟨W1, hW1⟩ : ∃ W1, wr.alloc (.cells #[.int .i64 r, .int .i64 x, .int .i64 y, .int .u8 (z : Int), .int .u8 (f : Int), .int .u8 (g : Int), .int .u8 (b : Int)] 52) = W1 := ⟨_, rfl⟩
        have HA : Hid (Whole W1 wr.heap.size 52 [.int .i64 r, .int .i64 x, .int .i64 y, .int .u8 (z : Int), .int .u8 (f : Int), .int .u8 (g : Int), .int .u8 (b : Int)]) := by unfold Hid; rw [← hW1]; exact Whole.new wr 52 [.int .i64 r, .int .i64 x, .int .i64 y, .int .u8 (z : Int), .int .u8 (f : Int), .int .u8 (g : Int), .int .u8 (b : Int)]
        have HBB : Hid (Below wr.heap.size wr W1) := by unfold Hid; rw [← hW1]; exact (Below.refl _ _).alloc (Nat.le_refl _) _
        have HW1 := hide hW1
        clear hW1
        go_wp2_with fail
        rw [HW1.out]
        refine (rblank_v F G B W1).mono ?_
        rintro e w2 ⟨rfl, hb2⟩
        have HB2 := hide (HBB.out.trans (hb2.mono HBB.out.size))
        have HA2 := hide (HA.out.later hb2)
        clear a0 a1 a2 a3 a4 a5 a6 p0 p1 p2 pl hb2
        obtain ⟨a0, a1, a2, a3, a4, a5, a6, a7⟩ := cells7 HA2.out
        go_wp2_with (at_builtin; refine stopw ?_)
        unfold Hid
        refine wpList_pushQ elemLC ⟨32, 0, 0, 1, ⟨F, G, B⟩⟩ (w2.heap.size) rfl _ _ rfl rfl rfl (HV.out.later (below_put7 HB2.out (Nat.le_refl _) _ _ _ _ _ _ _)) (by simp) (by rw [tab_len]; omega) (by omega) ?_
        intro v' wn hn1
        have HV' := hide (hn1.snoc HM.out)
        clear hn1 a0 a1 a2 a3 a4 a5 a6 a7
        go_wp2
        go_roundw
        case rel => exact ⟨k + 1, by omega, by go_num, HV'.out⟩
        case measure => simp [intOf]; omega
      · have HM := hide (eraseAt_no (cs := cs) (y := Y) (p := ⟨F, G, B⟩) (i := k) (x := X) (by omega))
        rw [HK.out] at HM
        go_wp2_with (at_builtin; refine stopw ?_)
        unfold Hid
        refine wpList_pushQ elemLC ⟨r, x, y, z, ⟨f, g, b⟩⟩ (wr.heap.size + 1) rfl _ _ rfl rfl rfl (HV.out.alloc _) (by simp) (by rw [tab_len]; omega) (by omega) ?_
        intro v' wn hn1
        have HV' := hide (hn1.snoc HM.out)
        clear hn1 a0 a1 a2 a3 a4 a5 a6
        go_wp2
        go_roundw
        case rel => exact ⟨k + 1, by omega, by go_num, HV'.out⟩
        case measure => simp [intOf]; omega
      · have HM := hide (eraseAt_no (cs := cs) (y := Y) (p := ⟨F, G, B⟩) (i := k) (x := X) (by omega))
        rw [HK.out] at HM
        go_wp2_with (at_builtin; refine stopw ?_)
        unfold Hid
        refine wpList_pushQ elemLC ⟨r, x, y, z, ⟨f, g, b⟩⟩ (wr.heap.size + 1) rfl _ _ rfl rfl rfl (HV.out.alloc _) (by simp) (by rw [tab_len]; omega) (by omega) ?_
        intro v' wn hn1
        have HV' := hide (hn1.snoc HM.out)
        clear hn1 a0 a1 a2 a3 a4 a5 a6
        go_wp2
        go_roundw
        case rel => exact ⟨k + 1, by omega, by go_num, HV'.out⟩
        case measure => simp [intOf]; omega
    · obtain rfl : k = n := by omega
      obtain ⟨A3, c3, hv, hc3, hcap, hnil, hmax⟩ := HV.out.form
      rw [tab_len] at hv
      subst hv
      have HC3 : Hid (Cels .i64 wr A3 (eraseTab cs X Y ⟨F, G, B⟩)) := by unfold Hid; rw [eraseTab_is, HN.out]; exact hc3
      clear hc3 hcap hnil hmax
      go_wp2_with fail
      refine (rmend_any A3 k c3 (eraseTab cs X Y ⟨F, G, B⟩) wr HC3.out (by rw [eraseTab_len, HN.out]) hl).mono ?_
      rintro e w2 ⟨v2, rfl, ho2⟩
      have HO2 := hide (ho2.from (HV.out.bel) HV.out.le)
      clear ho2
      go_wp2
      go_ret
      exact ⟨_, rfl, HO2.out.from HB0.out HB0.out.size⟩
set_option maxRecDepth 100000 in
set_option maxHeartbeats 1000000 in
theorem rlfit_any (A : Option Addr) (n c : Nat) (X : Int) (cs : List Cel) (w : World) (h : Cels .i64 w A cs) (hn : cs.length = n) (hl : n ≤ 1000000) :
    Calls Tryz.prog 85 #[.slice A n c, .int .i64 X] w (MadeC 52 .i64 w (fitC cs X)) := by
  have HN := hide hn
  have HC := hide h
  obtain ⟨N, hN⟩ : ∃ N, lenN X = N := ⟨_, rfl⟩
  have hNl : N ≤ 512 := by rw [← hN]; exact lenN_le X
  have HX := hide hN
  clear h hn hN
  go_enter Tryz.func85, Tryz.ntmps85
  go_wp2
  go_loopw [5, 6, 7] (fun v i _ wr => ∃ k : Nat, k ≤ N ∧ i = .int .i64 k ∧ OwnC 52 .i64 w.heap.size w wr v (tab k (fitAt cs))) (fun _ i _ _ => N - (intOf i).toNat)
  case atStart => exact ⟨0, Nat.zero_le _, rfl, OwnC.start (Nat.le_refl _)⟩
  case round =>
    obtain ⟨k, hk, rfl, hown⟩ := hrel
    have HV := hide hown
    clear hown
    go_wp2_with fail
    refine (length_any X wr).mono ?_
    rintro e w1 ⟨rfl, rfl⟩
    rw [HX.out]
    by_cases hlt : k < N
    · go_wp2_with fail
      refine (rblank_v 0 0 0 wr).mono ?_
      rintro e w1 ⟨rfl, hb1⟩
      have HV1 := hide (HV.out.later hb1)
      clear hb1
      by_cases hin : k < n
      · obtain ⟨b1, o1, rfl, l1, -⟩ := HC.out.at (i := k) (by rw [HN.out]; exact hin)
        have l2 : b1 < w1.heap.size := Nat.lt_of_lt_of_le l1 HV1.out.le
        obtain ⟨⟨r, x, y, z, ⟨f, g, b⟩⟩, hc⟩ : ∃ q, cAt cs k = q := ⟨_, rfl⟩
        obtain ⟨a0, a1, a2, a3, a4, a5, a6, -⟩ := (HC.out.below HV1.out.bel).sevenC k (by rw [HN.out]; exact hin) hc
        have HM := hide (fitAt_yes (cs := cs) (i := k) (by rw [HN.out]; exact hin))
        rw [hc] at HM
        clear hc
        go_wp2_with (at_builtin; refine stopw ?_)
        unfold Hid
        refine wpList_pushQ elemLC ⟨r, x, y, z, ⟨f, g, b⟩⟩ (w1.heap.size + 1) rfl _ _ rfl rfl rfl (HV1.out.alloc _) (by simp) (by rw [tab_len]; omega) (by omega) ?_
        intro v' wn hn1
        have HV' := hide (hn1.snoc HM.out)
        clear hn1 a0 a1 a2 a3 a4 a5 a6
        go_wp2
        go_roundw
        case rel => exact ⟨k + 1, by omega, by go_num, HV'.out⟩
        case measure => simp [intOf]; omega
      · have HM := hide (fitAt_no (cs := cs) (i := k) (by rw [HN.out]; exact hin))
        go_wp2_with (at_builtin; refine stopw ?_)
        unfold Hid
        refine wpList_pushQ elemLC ⟨32, 0, 0, 1, ⟨0, 0, 0⟩⟩ (w1.heap.size + 1) rfl _ _ rfl rfl rfl (HV1.out.alloc _) (by simp) (by rw [tab_len]; omega) (by omega) ?_
        intro v' wn hn1
        have HV' := hide (hn1.snoc HM.out)
        clear hn1 hin
        go_wp2
        go_roundw
        case rel => exact ⟨k + 1, by omega, by go_num, HV'.out⟩
        case measure => simp [intOf]; omega
    · obtain rfl : k = N := by omega
      obtain ⟨A3, c3, hv, hc3, hcap, hnil, hmax⟩ := HV.out.form
      rw [tab_len] at hv
      subst hv
      have HC3 : Hid (Cels .i64 wr A3 (fitTab cs X)) := by unfold Hid; rw [fitTab_is, HX.out]; exact hc3
      clear hc3 hcap hnil hmax
      go_wp2_with fail
      refine (rmend_any A3 k c3 (fitTab cs X) wr HC3.out (by rw [fitTab_len, HX.out]) (by omega)).mono ?_
      rintro e w2 ⟨v2, rfl, ho2⟩
      have HO2 := hide (ho2.from (HV.out.bel) HV.out.le)
      clear ho2
      go_wp2
      go_ret
      exact ⟨_, rfl, HO2.out⟩
end Go.Proofs.YtiifeniijcnahaaGreatDoor

namespace Go.Proofs.YtiifeniijcnahaaGreatDoor
set_option maxRecDepth 100000
open Go.ChangeShapes Go.WideShapes Go.ChangeAt Go.RowKit
set_option linter.unusedVariables false

/-- The call gave this line, wherever it lies, and told whether; all that was there is left. -/
def LineV2 (k : IntKind) (cs : List Cel) (ok : Bool) (w : World) (e : Ending) (w' : World) : Prop := ∃ A c, e = .returned (.tuple #[.slice A cs.length c, .bool ok]) ∧ Cels k w' A cs ∧ Below w.heap.size w w'
def putAt (cs : List Cel) (k : Nat) (c : Cel) (i : Nat) : Cel := if i = k then c else if i = k + 1 ∧ c.w = 2 then restC c else cAt cs i
theorem putTab_is (cs : List Cel) (k : Nat) (c : Cel) : putTab cs k c = tab cs.length (putAt cs k c) := rfl
theorem putAt_a (cs : List Cel) (k : Nat) (c : Cel) : putAt cs k c k = c := by unfold putAt; rw [if_pos rfl]
theorem putAt_b {cs : List Cel} {k : Nat} {c : Cel} (h : c.w = 2) : putAt cs k c (k + 1) = restC c := by unfold putAt; rw [if_neg (by omega), if_pos ⟨rfl, h⟩]
theorem putAt_c {cs : List Cel} {k : Nat} {c : Cel} {i : Nat} (h : i ≠ k) (h2 : ¬ (i = k + 1 ∧ c.w = 2)) : putAt cs k c i = cAt cs i := by unfold putAt; rw [if_neg h, if_neg h2]
set_option maxRecDepth 100000 in
set_option maxHeartbeats 2000000 in
theorem rput_any (A : Option Addr) (n c : Nat) (at_ : Int) (r m x : Int) (d f g b : Nat) (hd : d < 256) (cs : List Cel) (w : World) (h : Cels .i64 w A cs) (hn : cs.length = n) (hl : n ≤ 1000000) (ha : -9223372036854775808 ≤ at_ ∧ at_ < 9223372036854775808) :
    Calls Tryz.prog 75 #[.slice A n c, .int .i64 at_, .agg #[.int .i64 r, .int .i64 m, .int .i64 x, .int .u8 (d : Int), .int .u8 (f : Int), .int .u8 (g : Int), .int .u8 (b : Int)]] w (LineV2 .i64 (putC cs at_ ⟨r, m, x, d, ⟨f, g, b⟩⟩) (putOk cs at_ ⟨r, m, x, d, ⟨f, g, b⟩⟩) w) := by
  have HN := hide hn
  obtain ⟨W0, hW0⟩ : ∃ W0, w.alloc (.cells #[.int .i64 r, .int .i64 m, .int .i64 x, .int .u8 (d : Int), .int .u8 (f : Int), .int .u8 (g : Int), .int .u8 (b : Int)] 52) = W0 := ⟨_, rfl⟩
  have HB0 : Hid (Below w.heap.size w W0) := by unfold Hid; rw [← hW0]; exact (Below.refl _ _).alloc (Nat.le_refl _) _
  have HP0 : Hid (Whole W0 w.heap.size 52 [.int .i64 r, .int .i64 m, .int .i64 x, .int .u8 (d : Int), .int .u8 (f : Int), .int .u8 (g : Int), .int .u8 (b : Int)]) := by unfold Hid; rw [← hW0]; exact Whole.new w 52 [.int .i64 r, .int .i64 m, .int .i64 x, .int .u8 (d : Int), .int .u8 (f : Int), .int .u8 (g : Int), .int .u8 (b : Int)]
  have HC0 : Hid (Cels .i64 W0 A cs) := by unfold Hid; rw [← hW0]; exact h.alloc _
  have HW0 := hide hW0
  obtain ⟨R, hR⟩ : ∃ R, rightC ⟨r, m, x, d, ⟨f, g, b⟩⟩ = R := ⟨_, rfl⟩
  have key : (R = false ∧ putOk cs at_ ⟨r, m, x, d, ⟨f, g, b⟩⟩ = false) ∨ (R = true ∧ d = 0 ∧ putOk cs at_ ⟨r, m, x, d, ⟨f, g, b⟩⟩ = false) ∨ (R = true ∧ d ≠ 0 ∧ at_ < 0 ∧ putOk cs at_ ⟨r, m, x, d, ⟨f, g, b⟩⟩ = false) ∨ (R = true ∧ d ≠ 0 ∧ 0 ≤ at_ ∧ (n : Int) ≤ at_ ∧ putOk cs at_ ⟨r, m, x, d, ⟨f, g, b⟩⟩ = false) ∨ (R = true ∧ d = 2 ∧ 0 ≤ at_ ∧ at_ = (n : Int) - 1 ∧ putOk cs at_ ⟨r, m, x, d, ⟨f, g, b⟩⟩ = false) ∨ (R = true ∧ d = 2 ∧ 0 ≤ at_ ∧ at_ < (n : Int) - 1 ∧ putOk cs at_ ⟨r, m, x, d, ⟨f, g, b⟩⟩ = true) ∨ (R = true ∧ d = 1 ∧ 0 ≤ at_ ∧ at_ < (n : Int) ∧ putOk cs at_ ⟨r, m, x, d, ⟨f, g, b⟩⟩ = true) := by
    cases R
    · exact .inl ⟨rfl, putOk_no (by rw [hR]; simp)⟩
    · refine .inr ?_
      by_cases h0 : d = 0
      · exact .inl ⟨rfl, h0, putOk_no (by simp [h0])⟩
      refine .inr ?_
      by_cases h1 : at_ < 0
      · exact .inl ⟨rfl, h0, h1, putOk_no (by rintro ⟨_, _, q, _⟩; omega)⟩
      refine .inr ?_
      by_cases h2 : (n : Int) ≤ at_
      · exact .inl ⟨rfl, h0, by omega, h2, putOk_no (by rintro ⟨_, _, _, q⟩; simp only at q; omega)⟩
      refine .inr ?_
      have hd2 : d = 1 ∨ d = 2 := by rcases right_w hR with q | q | q; exact absurd q h0; exact .inl q; exact .inr q
      rcases hd2 with q | q
      · exact .inr (.inr ⟨rfl, q, by omega, by omega, putOk_yes ⟨hR, h0, by omega, by simp only; omega⟩⟩)
      · by_cases h3 : at_ = (n : Int) - 1
        · exact .inl ⟨rfl, q, by omega, h3, putOk_no (by rintro ⟨_, _, _, q⟩; simp only at q; omega)⟩
        · exact .inr (.inl ⟨rfl, q, by omega, by omega, putOk_yes ⟨hR, h0, by omega, by simp only; omega⟩⟩)
  have HR := hide hR
  clear h hn hW0 hR
  obtain ⟨a0, a1, a2, a3, a4, a5, a6, -⟩ := cells7 HP0.out
  go_enter Tryz.func75, Tryz.ntmps75
  go_wp2_with fail
  rw [HW0.out]
  refine (rcright_any r m x d f g b hd W0).mono ?_
  rintro e w2 ⟨rfl, hb⟩
  rw [HR.out]
  clear a0 a1 a2 a3 a4 a5 a6
  have HB2 := hide (HB0.out.trans (hb.mono HB0.out.size))
  have HP2 := hide (HP0.out.later hb)
  have HC2 := hide (HC0.out.below hb)
  clear hb HC0 HP0 HB0
  obtain ⟨a0, a1, a2, a3, a4, a5, a6, -⟩ := cells7 HP2.out
  rcases key with ⟨rfl, hk⟩ | ⟨rfl, h0, hk⟩ | ⟨rfl, h0, h1, hk⟩ | ⟨rfl, h0, h1, h2, hk⟩ | ⟨rfl, h0, h1, h2, hk⟩ | ⟨rfl, h0, h1, h2, hk⟩ | ⟨rfl, h0, h1, h2, hk⟩
  · have HK := hide hk
    clear hk
    go_wp2
    go_ret2
    exact ⟨A, c, by rw [HK.out, put_no HK.out, HN.out]; rfl, by rw [put_no HK.out]; exact HC2.out, HB2.out⟩
  · have HK := hide hk
    have e0 : ((d : Int) == 0) = true := by simp; omega
    clear hk h0
    go_wp2
    go_ret2
    exact ⟨A, c, by rw [HK.out, put_no HK.out, HN.out]; rfl, by rw [put_no HK.out]; exact HC2.out, HB2.out⟩
  · have HK := hide hk
    have e0 : ((d : Int) == 0) = false := by simp; omega
    clear hk h0
    go_wp2
    go_ret2
    exact ⟨A, c, by rw [HK.out, put_no HK.out, HN.out]; rfl, by rw [put_no HK.out]; exact HC2.out, HB2.out⟩
  · have HK := hide hk
    have e0 : ((d : Int) == 0) = false := by simp; omega
    clear hk h0
    go_wp2
    go_ret2
    exact ⟨A, c, by rw [HK.out, put_no HK.out, HN.out]; rfl, by rw [put_no HK.out]; exact HC2.out, HB2.out⟩
  · have HK := hide hk
    have e0 : ((d : Int) == 0) = false := by simp; omega
    have e2 : ((d : Int) == 2) = true := by simp; omega
    have e3 : (at_ == (n : Int) - 1) = true := by simp; omega
    clear hk h0
    go_wp2
    go_ret2
    exact ⟨A, c, by rw [HK.out, put_no HK.out, HN.out]; rfl, by rw [put_no HK.out]; exact HC2.out, HB2.out⟩
  · obtain ⟨k0, rfl⟩ : ∃ k0 : Nat, at_ = (k0 : Int) := ⟨at_.toNat, by omega⟩
    have HK := hide hk
    have e0 : ((d : Int) == 0) = false := by simp; omega
    have e2 : ((d : Int) == 2) = true := by simp; omega
    have e3 : ((k0 : Int) == (n : Int) - 1) = false := by simp; omega
    have HD2 := hide h0
    clear h0 hk h1
    go_wp2
    clear a0 a1 a2 a3 a4 a5 a6
    try generalize decide (n ≤ k0) = B1
    try generalize decide ((k0 : Int) < 0) = B2
    go_loopw [8, 9] (fun v i wr => ∃ k : Nat, k ≤ n ∧ i = .int .i64 k ∧ OwnC 52 .i64 w2.heap.size w2 wr v (tab k (putAt cs k0 ⟨r, m, x, d, ⟨f, g, b⟩⟩))) (fun _ i _ => n - (intOf i).toNat)
    case atStart => exact ⟨0, Nat.zero_le _, rfl, OwnC.start (Nat.le_refl _)⟩
    case round =>
      obtain ⟨k, hk, rfl, hown⟩ := hrel
      have HV := hide hown
      clear hown
      by_cases hlt : k < n
      · by_cases hk0 : k = k0
        · have HM : Hid (putAt cs k0 ⟨r, m, x, d, ⟨f, g, b⟩⟩ k = ⟨r, m, x, d, ⟨f, g, b⟩⟩) := by unfold Hid; rw [hk0]; exact putAt_a cs k0 _
          have q0 : ((k : Int) == (k0 : Int)) = true := by simp; omega
          obtain ⟨a0, a1, a2, a3, a4, a5, a6, -⟩ := cells7 (HP2.out.later HV.out.bel)
          go_wp2_with (at_builtin; refine stopw ?_)
          unfold Hid
          refine wpList_pushC elemLC ⟨r, m, x, d, ⟨f, g, b⟩⟩ rfl _ _ rfl rfl rfl (HV.out) (by rw [tab_len]; omega) (by omega) ?_
          intro v' wn hn1
          have HV' := hide (hn1.snoc HM.out)
          clear hn1 a0 a1 a2 a3 a4 a5 a6
          go_wp2
          go_roundw
          case rel => exact ⟨k + 1, by omega, by go_num, HV'.out⟩
          case measure => simp [intOf]; omega
        · have q0 : ((k : Int) == (k0 : Int)) = false := by simp; omega
          by_cases hk1 : k = k0 + 1
          · have q1 : ((k : Int) == (k0 : Int) + 1) = true := by simp; omega
            have HM := hide (putAt_b (cs := cs) (k := k0) (c := ⟨r, m, x, d, ⟨f, g, b⟩⟩) HD2.out)
            subst hk1
            obtain ⟨a0, a1, a2, a3, a4, a5, a6, -⟩ := cells7 (HP2.out.later HV.out.bel)
            go_wp2_with fail
            refine (rrest_v r m x d f g b wr).mono ?_
            rintro e w4 ⟨rfl, hb4⟩
            have HV1 := hide (HV.out.later hb4)
            clear hb4 a0 a1 a2 a3 a4 a5 a6
            go_wp2_with (at_builtin; refine stopw ?_)
            unfold Hid
            refine wpList_pushC elemLC ⟨0, 0, 0, 0, ⟨f, g, b⟩⟩ rfl _ _ rfl rfl rfl (HV1.out) (by rw [tab_len]; omega) (by omega) ?_
            intro v' wn hn1
            have HV' := hide (hn1.snoc HM.out)
            clear hn1
            go_wp2
            go_roundw
            case rel => exact ⟨k0 + 1 + 1, by omega, by go_num, HV'.out⟩
            case measure => simp [intOf]; omega
          · have q1 : ((k : Int) == (k0 : Int) + 1) = false := by simp; omega
            have HM := hide (putAt_c (cs := cs) (c := ⟨r, m, x, d, ⟨f, g, b⟩⟩) (k := k0) (i := k) hk0 (by omega))
            obtain ⟨b1, o1, rfl, l1, -⟩ := HC2.out.at (i := k) (by rw [HN.out]; exact hlt)
            obtain ⟨⟨r', x', y', z', ⟨f', g', b'⟩⟩, hc⟩ : ∃ q, cAt cs k = q := ⟨_, rfl⟩
            rw [hc] at HM
            obtain ⟨a0, a1, a2, a3, a4, a5, a6, -⟩ := (HC2.out.below HV.out.bel).sevenC k (by rw [HN.out]; exact hlt) hc
            clear hc
            go_wp2_with (at_builtin; refine stopw ?_)
            unfold Hid
            refine wpList_pushC elemLC ⟨r', x', y', z', ⟨f', g', b'⟩⟩ rfl _ _ rfl rfl rfl (HV.out) (by rw [tab_len]; omega) (by omega) ?_
            intro v' wn hn1
            have HV' := hide (hn1.snoc HM.out)
            clear hn1 a0 a1 a2 a3 a4 a5 a6
            go_wp2
            go_roundw
            case rel => exact ⟨k + 1, by omega, by go_num, HV'.out⟩
            case measure => simp [intOf]; omega
      · obtain rfl : k = n := by omega
        obtain ⟨A3, c3, hv, hc3, hcap, hnil, hmax⟩ := HV.out.form
        rw [tab_len] at hv
        subst hv
        have HC3 : Hid (Cels .i64 wr A3 (putTab cs k0 ⟨r, m, x, d, ⟨f, g, b⟩⟩)) := by unfold Hid; rw [putTab_is, HN.out]; exact hc3
        clear hc3 hcap hnil hmax
        go_wp2_with fail
        refine (rmend_any A3 k c3 (putTab cs k0 ⟨r, m, x, d, ⟨f, g, b⟩⟩) wr HC3.out (by rw [putTab_len, HN.out]) hl).mono ?_
        rintro e w4 ⟨v2, rfl, ho2⟩
        have HO2 := hide ((ho2.from (HV.out.bel) HV.out.le).from HB2.out HB2.out.size)
        clear ho2
        go_wp2
        go_ret2
        obtain ⟨A5, c5, hv5, hc5, -⟩ := HO2.out.form
        have e9 : putC cs (k0 : Int) ⟨r, m, x, d, ⟨f, g, b⟩⟩ = mendC (putTab cs k0 ⟨r, m, x, d, ⟨f, g, b⟩⟩) := put_yes HK.out
        exact ⟨A5, c5, by rw [HK.out, e9, ← hv5]; rfl, by rw [e9]; exact hc5, HO2.out.bel⟩
  · obtain ⟨k0, rfl⟩ : ∃ k0 : Nat, at_ = (k0 : Int) := ⟨at_.toNat, by omega⟩
    have HK := hide hk
    have e0 : ((d : Int) == 0) = false := by simp; omega
    have e2 : ((d : Int) == 2) = false := by simp; omega
    have HD2 := hide h0
    clear h0 hk h1
    go_wp2
    clear a0 a1 a2 a3 a4 a5 a6
    try generalize decide (n ≤ k0) = B1
    try generalize decide ((k0 : Int) < 0) = B2
    go_loopw [8, 9] (fun v i wr => ∃ k : Nat, k ≤ n ∧ i = .int .i64 k ∧ OwnC 52 .i64 w2.heap.size w2 wr v (tab k (putAt cs k0 ⟨r, m, x, d, ⟨f, g, b⟩⟩))) (fun _ i _ => n - (intOf i).toNat)
    case atStart => exact ⟨0, Nat.zero_le _, rfl, OwnC.start (Nat.le_refl _)⟩
    case round =>
      obtain ⟨k, hk, rfl, hown⟩ := hrel
      have HV := hide hown
      clear hown
      by_cases hlt : k < n
      · by_cases hk0 : k = k0
        · have HM : Hid (putAt cs k0 ⟨r, m, x, d, ⟨f, g, b⟩⟩ k = ⟨r, m, x, d, ⟨f, g, b⟩⟩) := by unfold Hid; rw [hk0]; exact putAt_a cs k0 _
          have q0 : ((k : Int) == (k0 : Int)) = true := by simp; omega
          obtain ⟨a0, a1, a2, a3, a4, a5, a6, -⟩ := cells7 (HP2.out.later HV.out.bel)
          go_wp2_with (at_builtin; refine stopw ?_)
          unfold Hid
          refine wpList_pushC elemLC ⟨r, m, x, d, ⟨f, g, b⟩⟩ rfl _ _ rfl rfl rfl (HV.out) (by rw [tab_len]; omega) (by omega) ?_
          intro v' wn hn1
          have HV' := hide (hn1.snoc HM.out)
          clear hn1 a0 a1 a2 a3 a4 a5 a6
          go_wp2
          go_roundw
          case rel => exact ⟨k + 1, by omega, by go_num, HV'.out⟩
          case measure => simp [intOf]; omega
        · have q0 : ((k : Int) == (k0 : Int)) = false := by simp; omega
          have HM := hide (putAt_c (cs := cs) (c := ⟨r, m, x, d, ⟨f, g, b⟩⟩) (k := k0) (i := k) hk0 (by have := HD2.out; simp only; omega))
          by_cases hk1 : k = k0 + 1
          · have q1 : ((k : Int) == (k0 : Int) + 1) = true := by simp; omega
            subst hk1
            obtain ⟨b1, o1, rfl, l1, -⟩ := HC2.out.at (i := k0 + 1) (by rw [HN.out]; exact hlt)
            obtain ⟨⟨r', x', y', z', ⟨f', g', b'⟩⟩, hc⟩ : ∃ q, cAt cs (k0 + 1) = q := ⟨_, rfl⟩
            rw [hc] at HM
            obtain ⟨a0, a1, a2, a3, a4, a5, a6, -⟩ := (HC2.out.below HV.out.bel).sevenC (k0 + 1) (by rw [HN.out]; exact hlt) hc
            clear hc
            obtain ⟨-, -, -, c3, -, -, -, -⟩ := cells7 (HP2.out.later HV.out.bel)
            go_wp2_with (at_builtin; refine stopw ?_)
            unfold Hid
            refine wpList_pushC elemLC ⟨r', x', y', z', ⟨f', g', b'⟩⟩ rfl _ _ rfl rfl rfl (HV.out) (by rw [tab_len]; omega) (by omega) ?_
            intro v' wn hn1
            have HV' := hide (hn1.snoc HM.out)
            clear hn1 a0 a1 a2 a3 a4 a5 a6 c3
            go_wp2
            go_roundw
            case rel => exact ⟨k0 + 1 + 1, by omega, by go_num, HV'.out⟩
            case measure => simp [intOf]; omega
          · have q1 : ((k : Int) == (k0 : Int) + 1) = false := by simp; omega
            obtain ⟨b1, o1, rfl, l1, -⟩ := HC2.out.at (i := k) (by rw [HN.out]; exact hlt)
            obtain ⟨⟨r', x', y', z', ⟨f', g', b'⟩⟩, hc⟩ : ∃ q, cAt cs k = q := ⟨_, rfl⟩
            rw [hc] at HM
            obtain ⟨a0, a1, a2, a3, a4, a5, a6, -⟩ := (HC2.out.below HV.out.bel).sevenC k (by rw [HN.out]; exact hlt) hc
            clear hc
            go_wp2_with (at_builtin; refine stopw ?_)
            unfold Hid
            refine wpList_pushC elemLC ⟨r', x', y', z', ⟨f', g', b'⟩⟩ rfl _ _ rfl rfl rfl (HV.out) (by rw [tab_len]; omega) (by omega) ?_
            intro v' wn hn1
            have HV' := hide (hn1.snoc HM.out)
            clear hn1 a0 a1 a2 a3 a4 a5 a6
            go_wp2
            go_roundw
            case rel => exact ⟨k + 1, by omega, by go_num, HV'.out⟩
            case measure => simp [intOf]; omega
      · obtain rfl : k = n := by omega
        obtain ⟨A3, c3, hv, hc3, hcap, hnil, hmax⟩ := HV.out.form
        rw [tab_len] at hv
        subst hv
        have HC3 : Hid (Cels .i64 wr A3 (putTab cs k0 ⟨r, m, x, d, ⟨f, g, b⟩⟩)) := by unfold Hid; rw [putTab_is, HN.out]; exact hc3
        clear hc3 hcap hnil hmax
        go_wp2_with fail
        refine (rmend_any A3 k c3 (putTab cs k0 ⟨r, m, x, d, ⟨f, g, b⟩⟩) wr HC3.out (by rw [putTab_len, HN.out]) hl).mono ?_
        rintro e w4 ⟨v2, rfl, ho2⟩
        have HO2 := hide ((ho2.from (HV.out.bel) HV.out.le).from HB2.out HB2.out.size)
        clear ho2
        go_wp2
        go_ret2
        obtain ⟨A5, c5, hv5, hc5, -⟩ := HO2.out.form
        have e9 : putC cs (k0 : Int) ⟨r, m, x, d, ⟨f, g, b⟩⟩ = mendC (putTab cs k0 ⟨r, m, x, d, ⟨f, g, b⟩⟩) := put_yes HK.out
        exact ⟨A5, c5, by rw [HK.out, e9, ← hv5]; rfl, by rw [e9]; exact hc5, HO2.out.bel⟩
theorem flat_set (k : IntKind) (cs : List Cel) (j : Nat) (c : Cel) (h : j < cs.length) : (flatC k cs).take (j * 7) ++ ([.int k c.r, .int k c.m, .int k c.n, .int .u8 (c.w : Int), .int .u8 (c.p.f : Int), .int .u8 (c.p.g : Int), .int .u8 (c.p.b : Int)] ++ (flatC k cs).drop (j * 7 + 7)) = flatC k (cs.set j c) := by
  rw [set_lay cs j c h, flat_lay]
  rfl
/-- A row of the call's own, one cell stored. -/
theorem OwnC.put {e : TypeId} {k : IntKind} {B : Nat} {w wr : World} {g n cap : Nat} {cs : List Cel} (h : OwnC e k B w wr (.slice (some ⟨g, 0, none⟩) n cap) cs) (hn : cs.length = n) (o j : Nat) (ho : o = j * 7) (hj : j < n) (c : Cel) :
    OwnC e k B w (((((((wr.setCell ⟨g, o, none⟩ (.int k c.r)).setCell ⟨g, o + 1, none⟩ (.int k c.m)).setCell ⟨g, o + 2, none⟩ (.int k c.n)).setCell ⟨g, o + 3, none⟩ (.int .u8 (c.w : Int))).setCell ⟨g, o + 4, none⟩ (.int .u8 (c.p.f : Int))).setCell ⟨g, o + 5, none⟩ (.int .u8 (c.p.g : Int))).setCell ⟨g, o + 6, none⟩ (.int .u8 (c.p.b : Int))) (.slice (some ⟨g, 0, none⟩) n cap) (cs.set j c) := by
  subst hn
  have hB : B ≤ g := (h.own.lt g rfl).1
  have s0 := (h.own.stored o (.int k c.r)).1
  have s1 := (s0.stored (o + 1) (.int k c.m)).1
  have s2 := (s1.stored (o + 2) (.int k c.n)).1
  have s3 := (s2.stored (o + 3) (.int .u8 (c.w : Int))).1
  have s4 := (s3.stored (o + 4) (.int .u8 (c.p.f : Int))).1
  have s5 := (s4.stored (o + 5) (.int .u8 (c.p.g : Int))).1
  have s6 := (s5.stored (o + 6) (.int .u8 (c.p.b : Int))).1
  clear s0 s1 s2 s3 s4 s5
  rw [set7 _ o (by rw [flatC_len]; omega)] at s6
  subst ho
  rw [flat_set k cs j c hj] at s6
  refine ⟨?_, (only_cell (j * 7) _ _ _ _ _ _ _).below h.bel h.le hB, ?_⟩
  · rw [List.length_set]; exact s6
  · have := h.le; simp only [World.size_setCell]; exact this
set_option maxRecDepth 100000 in
set_option maxHeartbeats 2000000 in
theorem rlmark_any (A : Option Addr) (n c : Nat) (at_ x : Int) (cs : List Cel) (w : World) (h : Cels .i64 w A cs) (hn : cs.length = n) (hl : n ≤ 1000000) (hA : A = none → c = 0) :
    Calls Tryz.prog 77 #[.slice A n c, .int .i64 at_, .int .i64 x] w (LineV2 .i64 (lmarkC cs at_ x).1 (lmarkC cs at_ x).2 w) := by
  have HC := hide h
  have HN := hide hn
  have HA := hide hA
  clear h hn hA
  by_cases hin : 0 ≤ at_ ∧ at_ < (n : Int)
  · obtain ⟨k, rfl⟩ : ∃ k : Nat, at_ = (k : Int) := ⟨at_.toNat, by omega⟩
    have hk : k < n := by omega
    clear hin
    obtain ⟨b0, o0, rfl, l0, -⟩ := HC.out.at (i := k) (by rw [HN.out]; exact hk)
    by_cases h0 : wAt cs k = 0
    · have e0 : ((wAt cs k : Int) == 0) = true := by simp; omega
      cases hal : aloneC cs k
      · obtain ⟨j, rfl⟩ : ∃ j, k = j + 1 := ⟨k - 1, by have := (alone_0 h0 hal).1; omega⟩
        have HJ := hide (mkAt_not h0 hal)
        have h2 : wAt cs j = 2 := (alone_0 h0 hal).2
        have c3 := HC.out.wide (j + 1) (by rw [HN.out]; exact hk)
        obtain ⟨⟨r, m, y, d, ⟨f, z, b⟩⟩, hc⟩ : ∃ q, cAt cs j = q := ⟨_, rfl⟩
        obtain ⟨⟨⟨r1, m1, y1, d1, ⟨f1, z1, b1⟩⟩, ok⟩, hm⟩ : ∃ q, markC (cAt cs j) x = q := ⟨_, rfl⟩
        have HE := hide (lmark_yes (by rw [HN.out]; omega) HJ.out hm)
        rw [hc] at hm
        have HM := hide hm
        clear hm
        obtain ⟨v0, v1, v2, v3, v4, v5, v6, -⟩ := HC.out.sevenC j (by rw [HN.out]; omega) hc
        have e2 : ((d : Int) == 2) = true := by have q := wAt_of (by rw [HN.out]; omega) hc; simp; omega
        clear h0 hal h2
        clear hc
        go_enter Tryz.func77, Tryz.ntmps77
        go_wp2_with fail
        refine (rcmark_v r m y d f z b x r1 m1 y1 d1 f1 z1 b1 ok HM.out w).mono ?_
        rintro e w2 ⟨rfl, hb⟩
        clear v0 v1 v2 v3 v4 v5 v6
        have hb8 := hb.alloc hb.size (.cells #[.int .i64 r1, .int .i64 m1, .int .i64 y1, .int .u8 (d1 : Int), .int .u8 (f1 : Int), .int .u8 (z1 : Int), .int .u8 (b1 : Int)] 52)
        obtain ⟨W2, hW2⟩ : ∃ W2, w2.alloc (.cells #[.int .i64 r1, .int .i64 m1, .int .i64 y1, .int .u8 (d1 : Int), .int .u8 (f1 : Int), .int .u8 (z1 : Int), .int .u8 (b1 : Int)] 52) = W2 := ⟨_, rfl⟩
        rw [hW2] at hb8
        have HB2 := hide hb8
        have HP2 : Hid (Whole W2 w2.heap.size 52 [.int .i64 r1, .int .i64 m1, .int .i64 y1, .int .u8 (d1 : Int), .int .u8 (f1 : Int), .int .u8 (z1 : Int), .int .u8 (b1 : Int)]) := by unfold Hid; rw [← hW2]; exact Whole.new w2 52 [.int .i64 r1, .int .i64 m1, .int .i64 y1, .int .u8 (d1 : Int), .int .u8 (f1 : Int), .int .u8 (z1 : Int), .int .u8 (b1 : Int)]
        have HC2 := hide ((HC.out.below hb8).alloc (.cells #[] 52))
        have hsz : w2.heap.size + 1 = W2.heap.size := by rw [← hW2]; simp
        have HW2 := hide hW2
        clear hb hb8 hW2
        go_wp2_with (at_builtin; refine stopw ?_)
        unfold Hid
        rw [HW2.out]
        refine wpList_catC elemLC rfl _ _ rfl rfl rfl (OwnC.empty W2 52 .i64) HC2.out HN.out HA.out (by simp; omega) (by omega) ?_
        intro v' w5 hown
        rw [List.nil_append] at hown
        obtain ⟨g5, c5, rfl⟩ : ∃ g5 c5, v' = .slice (some ⟨g5, 0, none⟩) n c5 := by
          rcases hown.own.2 with ⟨-, h0⟩ | ⟨g5, c5, cur, hv, -⟩
          · rw [HN.out] at h0; omega
          · exact ⟨g5, c5, by rw [hv, HN.out]⟩
        obtain ⟨A6, c6, hv6, hc6, -⟩ := hown.form
        injection hv6 with q1 q2 q3
        subst q1
        clear q2 q3
        have HO := hide hown
        have hfz : ∀ i, w5.frozen? ⟨g5, i, none⟩ = false := by
          rcases hown.own.2 with ⟨h0, -⟩ | ⟨g, cap, cur, hv, -, hh, -⟩
          · cases h0
          · cases hv; intro i; simp [World.frozen?, hh]
        obtain ⟨⟨r9, m9, y9, d9, ⟨f9, z9, b9⟩⟩, hc9⟩ : ∃ q, cAt cs j = q := ⟨_, rfl⟩
        obtain ⟨v0, v1, v2, v3, v4, v5, v6, -⟩ := hc6.sevenC j (by rw [HN.out]; omega) hc9
        simp only [Nat.zero_add] at v0 v1 v2 v3 v4 v5 v6
        obtain ⟨t0, t1, t2, t3, t4, t5, t6, -⟩ := cells7 (HP2.out.later hown.bel)
        clear hown hc6 hc9
        go_wp2
        go_ret2
        have hfin := HO.out.put HN.out (j * 7) j rfl (by omega) ⟨r1, m1, y1, d1, ⟨f1, z1, b1⟩⟩
        obtain ⟨A7, c7, hv7, hc7, -⟩ := hfin.form
        have hB7 := (hfin.from HB2.out HB2.out.size).bel
        injection hv7 with q1 q2 q3
        subst q1 q3
        exact ⟨_, c5, by rw [HE.out]; simp only [List.length_set]; rw [HN.out]; rfl, by rw [HE.out]; exact hc7, hB7⟩
      · have HJ := hide (mkAt_alone h0 hal)
        have hp : k = 0 ∨ (k ≠ 0 ∧ wAt cs (k - 1) ≠ 2) := by
          by_cases q : k = 0
          · exact .inl q
          · refine .inr ⟨q, fun q2 => ?_⟩
            have : aloneC cs k = false := by unfold aloneC; rw [if_neg (by omega), if_pos h0]; simp [q2]; omega
            rw [this] at hal; cases hal
        rcases hp with hp | ⟨hp, hp2⟩
        · subst hp
          obtain ⟨⟨r, m, y, d, ⟨f, z, b⟩⟩, hc⟩ : ∃ q, cAt cs 0 = q := ⟨_, rfl⟩
          obtain ⟨⟨⟨r1, m1, y1, d1, ⟨f1, z1, b1⟩⟩, ok⟩, hm⟩ : ∃ q, markC (cAt cs 0) x = q := ⟨_, rfl⟩
          have HE := hide (lmark_yes (by rw [HN.out]; omega) HJ.out hm)
          rw [hc] at hm
          have HM := hide hm
          clear hm
          obtain ⟨v0, v1, v2, v3, v4, v5, v6, -⟩ := HC.out.sevenC 0 (by rw [HN.out]; omega) hc
          have e1 : ((d : Int) == 0) = true := by rw [← wAt_of (by rw [HN.out]; exact hk) hc]; exact e0
          simp only [Nat.zero_mul, Nat.add_zero] at v0 v1 v2 v3 v4 v5 v6
          clear h0 hal
          clear hc
          go_enter Tryz.func77, Tryz.ntmps77
          go_wp2_with fail
          refine (rcmark_v r m y d f z b x r1 m1 y1 d1 f1 z1 b1 ok HM.out w).mono ?_
          rintro e w2 ⟨rfl, hb⟩
          clear v0 v1 v2 v3 v4 v5 v6
          have hb8 := hb.alloc hb.size (.cells #[.int .i64 r1, .int .i64 m1, .int .i64 y1, .int .u8 (d1 : Int), .int .u8 (f1 : Int), .int .u8 (z1 : Int), .int .u8 (b1 : Int)] 52)
          obtain ⟨W2, hW2⟩ : ∃ W2, w2.alloc (.cells #[.int .i64 r1, .int .i64 m1, .int .i64 y1, .int .u8 (d1 : Int), .int .u8 (f1 : Int), .int .u8 (z1 : Int), .int .u8 (b1 : Int)] 52) = W2 := ⟨_, rfl⟩
          rw [hW2] at hb8
          have HB2 := hide hb8
          have HP2 : Hid (Whole W2 w2.heap.size 52 [.int .i64 r1, .int .i64 m1, .int .i64 y1, .int .u8 (d1 : Int), .int .u8 (f1 : Int), .int .u8 (z1 : Int), .int .u8 (b1 : Int)]) := by unfold Hid; rw [← hW2]; exact Whole.new w2 52 [.int .i64 r1, .int .i64 m1, .int .i64 y1, .int .u8 (d1 : Int), .int .u8 (f1 : Int), .int .u8 (z1 : Int), .int .u8 (b1 : Int)]
          have HC2 := hide ((HC.out.below hb8).alloc (.cells #[] 52))
          have hsz : w2.heap.size + 1 = W2.heap.size := by rw [← hW2]; simp
          have HW2 := hide hW2
          clear hb hb8 hW2
          go_wp2_with (at_builtin; refine stopw ?_)
          unfold Hid
          rw [HW2.out]
          refine wpList_catC elemLC rfl _ _ rfl rfl rfl (OwnC.empty W2 52 .i64) HC2.out HN.out HA.out (by simp; omega) (by omega) ?_
          intro v' w5 hown
          rw [List.nil_append] at hown
          obtain ⟨g5, c5, rfl⟩ : ∃ g5 c5, v' = .slice (some ⟨g5, 0, none⟩) n c5 := by
            rcases hown.own.2 with ⟨-, h0⟩ | ⟨g5, c5, cur, hv, -⟩
            · rw [HN.out] at h0; omega
            · exact ⟨g5, c5, by rw [hv, HN.out]⟩
          obtain ⟨A6, c6, hv6, hc6, -⟩ := hown.form
          injection hv6 with q1 q2 q3
          subst q1
          clear q2 q3
          have HO := hide hown
          have hfz : ∀ i, w5.frozen? ⟨g5, i, none⟩ = false := by
            rcases hown.own.2 with ⟨h0, -⟩ | ⟨g, cap, cur, hv, -, hh, -⟩
            · cases h0
            · cases hv; intro i; simp [World.frozen?, hh]
          obtain ⟨⟨r9, m9, y9, d9, ⟨f9, z9, b9⟩⟩, hc9⟩ : ∃ q, cAt cs 0 = q := ⟨_, rfl⟩
          obtain ⟨v0, v1, v2, v3, v4, v5, v6, -⟩ := hc6.sevenC 0 (by rw [HN.out]; omega) hc9
          simp only [Nat.zero_mul, Nat.zero_add] at v0 v1 v2 v3 v4 v5 v6
          obtain ⟨t0, t1, t2, t3, t4, t5, t6, -⟩ := cells7 (HP2.out.later hown.bel)
          clear hown hc6 hc9
          go_wp2
          go_ret2
          have hfin := HO.out.put HN.out 0 0 rfl (by omega) ⟨r1, m1, y1, d1, ⟨f1, z1, b1⟩⟩
          obtain ⟨A7, c7, hv7, hc7, -⟩ := hfin.form
          have hB7 := (hfin.from HB2.out HB2.out.size).bel
          injection hv7 with q1 q2 q3
          subst q1 q3
          exact ⟨_, c5, by rw [HE.out]; simp only [List.length_set]; rw [HN.out]; rfl, by rw [HE.out]; exact hc7, hB7⟩
        · obtain ⟨j, rfl⟩ : ∃ j, k = j + 1 := ⟨k - 1, by omega⟩
          rw [show j + 1 - 1 = j by omega] at hp2
          have c4 := HC.out.wide j (by rw [HN.out]; omega)
          have e4 : ((wAt cs j : Int) == 2) = false := by simp; omega
          obtain ⟨⟨r, m, y, d, ⟨f, z, b⟩⟩, hc⟩ : ∃ q, cAt cs (j + 1) = q := ⟨_, rfl⟩
          obtain ⟨⟨⟨r1, m1, y1, d1, ⟨f1, z1, b1⟩⟩, ok⟩, hm⟩ : ∃ q, markC (cAt cs (j + 1)) x = q := ⟨_, rfl⟩
          have HE := hide (lmark_yes (by rw [HN.out]; omega) HJ.out hm)
          rw [hc] at hm
          have HM := hide hm
          clear hm
          obtain ⟨v0, v1, v2, v3, v4, v5, v6, -⟩ := HC.out.sevenC (j + 1) (by rw [HN.out]; omega) hc
          have e1 : ((d : Int) == 0) = true := by rw [← wAt_of (by rw [HN.out]; exact hk) hc]; exact e0
          clear h0 hal hp hp2
          clear hc
          go_enter Tryz.func77, Tryz.ntmps77
          go_wp2_with fail
          refine (rcmark_v r m y d f z b x r1 m1 y1 d1 f1 z1 b1 ok HM.out w).mono ?_
          rintro e w2 ⟨rfl, hb⟩
          clear v0 v1 v2 v3 v4 v5 v6
          have hb8 := hb.alloc hb.size (.cells #[.int .i64 r1, .int .i64 m1, .int .i64 y1, .int .u8 (d1 : Int), .int .u8 (f1 : Int), .int .u8 (z1 : Int), .int .u8 (b1 : Int)] 52)
          obtain ⟨W2, hW2⟩ : ∃ W2, w2.alloc (.cells #[.int .i64 r1, .int .i64 m1, .int .i64 y1, .int .u8 (d1 : Int), .int .u8 (f1 : Int), .int .u8 (z1 : Int), .int .u8 (b1 : Int)] 52) = W2 := ⟨_, rfl⟩
          rw [hW2] at hb8
          have HB2 := hide hb8
          have HP2 : Hid (Whole W2 w2.heap.size 52 [.int .i64 r1, .int .i64 m1, .int .i64 y1, .int .u8 (d1 : Int), .int .u8 (f1 : Int), .int .u8 (z1 : Int), .int .u8 (b1 : Int)]) := by unfold Hid; rw [← hW2]; exact Whole.new w2 52 [.int .i64 r1, .int .i64 m1, .int .i64 y1, .int .u8 (d1 : Int), .int .u8 (f1 : Int), .int .u8 (z1 : Int), .int .u8 (b1 : Int)]
          have HC2 := hide ((HC.out.below hb8).alloc (.cells #[] 52))
          have hsz : w2.heap.size + 1 = W2.heap.size := by rw [← hW2]; simp
          have HW2 := hide hW2
          clear hb hb8 hW2
          go_wp2_with (at_builtin; refine stopw ?_)
          unfold Hid
          rw [HW2.out]
          refine wpList_catC elemLC rfl _ _ rfl rfl rfl (OwnC.empty W2 52 .i64) HC2.out HN.out HA.out (by simp; omega) (by omega) ?_
          intro v' w5 hown
          rw [List.nil_append] at hown
          obtain ⟨g5, c5, rfl⟩ : ∃ g5 c5, v' = .slice (some ⟨g5, 0, none⟩) n c5 := by
            rcases hown.own.2 with ⟨-, h0⟩ | ⟨g5, c5, cur, hv, -⟩
            · rw [HN.out] at h0; omega
            · exact ⟨g5, c5, by rw [hv, HN.out]⟩
          obtain ⟨A6, c6, hv6, hc6, -⟩ := hown.form
          injection hv6 with q1 q2 q3
          subst q1
          clear q2 q3
          have HO := hide hown
          have hfz : ∀ i, w5.frozen? ⟨g5, i, none⟩ = false := by
            rcases hown.own.2 with ⟨h0, -⟩ | ⟨g, cap, cur, hv, -, hh, -⟩
            · cases h0
            · cases hv; intro i; simp [World.frozen?, hh]
          obtain ⟨⟨r9, m9, y9, d9, ⟨f9, z9, b9⟩⟩, hc9⟩ : ∃ q, cAt cs (j + 1) = q := ⟨_, rfl⟩
          obtain ⟨v0, v1, v2, v3, v4, v5, v6, -⟩ := hc6.sevenC (j + 1) (by rw [HN.out]; omega) hc9
          simp only [Nat.zero_add] at v0 v1 v2 v3 v4 v5 v6
          obtain ⟨t0, t1, t2, t3, t4, t5, t6, -⟩ := cells7 (HP2.out.later hown.bel)
          clear hown hc6 hc9
          go_wp2
          go_ret2
          have hfin := HO.out.put HN.out ((j + 1) * 7) (j + 1) rfl (by omega) ⟨r1, m1, y1, d1, ⟨f1, z1, b1⟩⟩
          obtain ⟨A7, c7, hv7, hc7, -⟩ := hfin.form
          have hB7 := (hfin.from HB2.out HB2.out.size).bel
          injection hv7 with q1 q2 q3
          subst q1 q3
          exact ⟨_, c5, by rw [HE.out]; simp only [List.length_set]; rw [HN.out]; rfl, by rw [HE.out]; exact hc7, hB7⟩
    · have HJ := hide (mkAt_same h0)
      obtain ⟨⟨r, m, y, d, ⟨f, z, b⟩⟩, hc⟩ : ∃ q, cAt cs k = q := ⟨_, rfl⟩
      obtain ⟨⟨⟨r1, m1, y1, d1, ⟨f1, z1, b1⟩⟩, ok⟩, hm⟩ : ∃ q, markC (cAt cs k) x = q := ⟨_, rfl⟩
      have HE := hide (lmark_yes (by rw [HN.out]; omega) HJ.out hm)
      rw [hc] at hm
      have HM := hide hm
      clear hm
      obtain ⟨v0, v1, v2, v3, v4, v5, v6, -⟩ := HC.out.sevenC k (by rw [HN.out]; omega) hc
      have e1 : ((d : Int) == 0) = false := by have q := wAt_of (by rw [HN.out]; exact hk) hc; simp; omega
      clear h0
      clear hc
      go_enter Tryz.func77, Tryz.ntmps77
      go_wp2_with fail
      refine (rcmark_v r m y d f z b x r1 m1 y1 d1 f1 z1 b1 ok HM.out w).mono ?_
      rintro e w2 ⟨rfl, hb⟩
      clear v0 v1 v2 v3 v4 v5 v6
      have hb8 := hb.alloc hb.size (.cells #[.int .i64 r1, .int .i64 m1, .int .i64 y1, .int .u8 (d1 : Int), .int .u8 (f1 : Int), .int .u8 (z1 : Int), .int .u8 (b1 : Int)] 52)
      obtain ⟨W2, hW2⟩ : ∃ W2, w2.alloc (.cells #[.int .i64 r1, .int .i64 m1, .int .i64 y1, .int .u8 (d1 : Int), .int .u8 (f1 : Int), .int .u8 (z1 : Int), .int .u8 (b1 : Int)] 52) = W2 := ⟨_, rfl⟩
      rw [hW2] at hb8
      have HB2 := hide hb8
      have HP2 : Hid (Whole W2 w2.heap.size 52 [.int .i64 r1, .int .i64 m1, .int .i64 y1, .int .u8 (d1 : Int), .int .u8 (f1 : Int), .int .u8 (z1 : Int), .int .u8 (b1 : Int)]) := by unfold Hid; rw [← hW2]; exact Whole.new w2 52 [.int .i64 r1, .int .i64 m1, .int .i64 y1, .int .u8 (d1 : Int), .int .u8 (f1 : Int), .int .u8 (z1 : Int), .int .u8 (b1 : Int)]
      have HC2 := hide ((HC.out.below hb8).alloc (.cells #[] 52))
      have hsz : w2.heap.size + 1 = W2.heap.size := by rw [← hW2]; simp
      have HW2 := hide hW2
      clear hb hb8 hW2
      go_wp2_with (at_builtin; refine stopw ?_)
      unfold Hid
      rw [HW2.out]
      refine wpList_catC elemLC rfl _ _ rfl rfl rfl (OwnC.empty W2 52 .i64) HC2.out HN.out HA.out (by simp; omega) (by omega) ?_
      intro v' w5 hown
      rw [List.nil_append] at hown
      obtain ⟨g5, c5, rfl⟩ : ∃ g5 c5, v' = .slice (some ⟨g5, 0, none⟩) n c5 := by
        rcases hown.own.2 with ⟨-, h0⟩ | ⟨g5, c5, cur, hv, -⟩
        · rw [HN.out] at h0; omega
        · exact ⟨g5, c5, by rw [hv, HN.out]⟩
      obtain ⟨A6, c6, hv6, hc6, -⟩ := hown.form
      injection hv6 with q1 q2 q3
      subst q1
      clear q2 q3
      have HO := hide hown
      have hfz : ∀ i, w5.frozen? ⟨g5, i, none⟩ = false := by
        rcases hown.own.2 with ⟨h0, -⟩ | ⟨g, cap, cur, hv, -, hh, -⟩
        · cases h0
        · cases hv; intro i; simp [World.frozen?, hh]
      obtain ⟨⟨r9, m9, y9, d9, ⟨f9, z9, b9⟩⟩, hc9⟩ : ∃ q, cAt cs k = q := ⟨_, rfl⟩
      obtain ⟨v0, v1, v2, v3, v4, v5, v6, -⟩ := hc6.sevenC k (by rw [HN.out]; omega) hc9
      simp only [Nat.zero_add] at v0 v1 v2 v3 v4 v5 v6
      obtain ⟨t0, t1, t2, t3, t4, t5, t6, -⟩ := cells7 (HP2.out.later hown.bel)
      clear hown hc6 hc9
      go_wp2
      go_ret2
      have hfin := HO.out.put HN.out (k * 7) k rfl (by omega) ⟨r1, m1, y1, d1, ⟨f1, z1, b1⟩⟩
      obtain ⟨A7, c7, hv7, hc7, -⟩ := hfin.form
      have hB7 := (hfin.from HB2.out HB2.out.size).bel
      injection hv7 with q1 q2 q3
      subst q1 q3
      exact ⟨_, c5, by rw [HE.out]; simp only [List.length_set]; rw [HN.out]; rfl, by rw [HE.out]; exact hc7, hB7⟩
  · have HE := hide (lmark_no (r := x) (by rw [HN.out]; exact hin))
    by_cases h0 : at_ < 0
    · clear hin
      go_enter Tryz.func77, Tryz.ntmps77
      go_wp2
      go_ret2
      exact ⟨A, c, by rw [HE.out]; simp only; rw [HN.out]; rfl, by rw [HE.out]; exact HC.out, Below.refl _ _⟩
    · have h1 : (n : Int) ≤ at_ := by omega
      clear hin
      go_enter Tryz.func77, Tryz.ntmps77
      go_wp2
      go_ret2
      exact ⟨A, c, by rw [HE.out]; simp only; rw [HN.out]; rfl, by rw [HE.out]; exact HC.out, Below.refl _ _⟩
end Go.Proofs.YtiifeniijcnahaaGreatDoor

namespace Go.Proofs.YtiifeniijcnahaaGreatDoor
set_option maxRecDepth 100000
open Go.ChangeShapes Go.WideShapes Go.ChangeAt Go.RowKit
set_option linter.unusedVariables false

def exB : Cel := ⟨32, 0, 0, 1, ⟨0, 0, 0⟩⟩
def exL0 : List Cel := [⟨32, 0, 0, 1, ⟨0, 0, 0⟩⟩, ⟨32, 0, 0, 1, ⟨0, 0, 0⟩⟩, ⟨32, 0, 0, 1, ⟨0, 0, 0⟩⟩, ⟨32, 0, 0, 1, ⟨0, 0, 0⟩⟩]
def exL1 : List Cel := [⟨32, 0, 0, 1, ⟨0, 0, 0⟩⟩, ⟨12354, 0, 0, 2, ⟨0, 0, 0⟩⟩, ⟨0, 0, 0, 0, ⟨0, 0, 0⟩⟩, ⟨32, 0, 0, 1, ⟨0, 0, 0⟩⟩]
def exL2 : List Cel := [⟨32, 0, 0, 1, ⟨0, 0, 0⟩⟩, ⟨32, 0, 0, 1, ⟨0, 0, 0⟩⟩, ⟨97, 0, 0, 1, ⟨0, 0, 0⟩⟩, ⟨32, 0, 0, 1, ⟨0, 0, 0⟩⟩]
theorem ex_new : newC 4 = exL0 := by decide +kernel
theorem ex_put1 : putC exL0 1 ⟨12354, 0, 0, 2, ⟨0, 0, 0⟩⟩ = exL1 := by decide +kernel
theorem ex_ok1 : putOk exL0 1 ⟨12354, 0, 0, 2, ⟨0, 0, 0⟩⟩ = true := by decide +kernel
theorem ex_put2 : putC exL1 2 ⟨97, 0, 0, 1, ⟨0, 0, 0⟩⟩ = exL2 := by decide +kernel
theorem ex_ok2 : putOk exL1 2 ⟨97, 0, 0, 1, ⟨0, 0, 0⟩⟩ = true := by decide +kernel
theorem ex_cels1 (w : World) : Cels .i32 (w.alloc (.cells #[.int .i32 32, .int .i32 0, .int .i32 0, .int .u8 1, .int .u8 0, .int .u8 0, .int .u8 0, .int .i32 12354, .int .i32 0, .int .i32 0, .int .u8 2, .int .u8 0, .int .u8 0, .int .u8 0, .int .i32 0, .int .i32 0, .int .i32 0, .int .u8 0, .int .u8 0, .int .u8 0, .int .u8 0, .int .i32 32, .int .i32 0, .int .i32 0, .int .u8 1, .int .u8 0, .int .u8 0, .int .u8 0] 40)) (some ⟨w.heap.size, 0, none⟩) exL1 := (Whole.new w 40 (flatC .i32 exL1)).cels
theorem ex_cels2 (w : World) : Cels .i32 (w.alloc (.cells #[.int .i32 32, .int .i32 0, .int .i32 0, .int .u8 1, .int .u8 0, .int .u8 0, .int .u8 0, .int .i32 32, .int .i32 0, .int .i32 0, .int .u8 1, .int .u8 0, .int .u8 0, .int .u8 0, .int .i32 97, .int .i32 0, .int .i32 0, .int .u8 1, .int .u8 0, .int .u8 0, .int .u8 0, .int .i32 32, .int .i32 0, .int .i32 0, .int .u8 1, .int .u8 0, .int .u8 0, .int .u8 0] 40)) (some ⟨w.heap.size, 0, none⟩) exL2 := (Whole.new w 40 (flatC .i32 exL2)).cels
theorem new_ex (w : World) : Calls Tryz.prog 29 #[.int .i64 4] w fun e w' => ∃ g, e = .returned (.slice (some ⟨g, 0, none⟩) 4 4) ∧ Cels .i32 w' (some ⟨g, 0, none⟩) exL0 ∧ Below w.heap.size w w' := by
  refine (new_any 4 w).mono ?_
  rintro e w' ⟨g, rfl, -, hw, hb⟩
  rw [ex_new] at hw
  exact ⟨g, by rw [ex_new]; rfl, hw.cels, hb⟩
theorem put_ex1 (g : Nat) (w : World) (h : Cels .i32 w (some ⟨g, 0, none⟩) exL0) (hS : Spans w) : Calls Tryz.prog 71 #[.slice (some ⟨g, 0, none⟩) 4 4, .int .i64 1, .agg #[.int .i32 12354, .int .i32 0, .int .i32 0, .int .u8 (2 : Int), .int .u8 (0 : Int), .int .u8 (0 : Int), .int .u8 (0 : Int)]] w fun e w' => ∃ g', e = .returned (.tuple #[.slice (some ⟨g', 0, none⟩) 4 4, .bool true]) ∧ Cels .i32 w' (some ⟨g', 0, none⟩) exL1 ∧ Below w.heap.size w w' := by
  refine (put_any (some ⟨g, 0, none⟩) 4 4 1 12354 0 0 2 0 0 0 (by omega) exL0 w h rfl (by omega) hS (by omega)).mono ?_
  rintro e w' ⟨g', rfl, -, hw, hb⟩
  rw [ex_put1] at hw
  exact ⟨g', by rw [ex_put1, ex_ok1]; rfl, hw.cels, hb⟩
theorem put_ex2 (g : Nat) (w : World) (h : Cels .i32 w (some ⟨g, 0, none⟩) exL1) (hS : Spans w) : Calls Tryz.prog 71 #[.slice (some ⟨g, 0, none⟩) 4 4, .int .i64 2, .agg #[.int .i32 97, .int .i32 0, .int .i32 0, .int .u8 (1 : Int), .int .u8 (0 : Int), .int .u8 (0 : Int), .int .u8 (0 : Int)]] w fun e w' => ∃ g', e = .returned (.tuple #[.slice (some ⟨g', 0, none⟩) 4 4, .bool true]) ∧ Cels .i32 w' (some ⟨g', 0, none⟩) exL2 ∧ Below w.heap.size w w' := by
  refine (put_any (some ⟨g, 0, none⟩) 4 4 2 97 0 0 1 0 0 0 (by omega) exL1 w h rfl (by omega) hS (by omega)).mono ?_
  rintro e w' ⟨g', rfl, -, hw, hb⟩
  rw [ex_put2] at hw
  exact ⟨g', by rw [ex_put2, ex_ok2]; rfl, hw.cels, hb⟩
theorem same_ex (A C : Option Addr) (l : List Cel) (hl : l.length = 4) (w : World) (ha : Cels .i32 w A l) (hb : Cels .i32 w C l) : Calls Tryz.prog 62 #[.slice A 4 4, .slice C 4 4] w (Said true w) := by
  have := same6_any A C 4 4 4 4 l l w ha hb hl hl (by omega)
  simpa using this
end Go.Proofs.YtiifeniijcnahaaGreatDoor

namespace Go.Proofs.YtiifeniijcnahaaGreatDoor
set_option maxRecDepth 100000
open Go.ChangeShapes Go.WideShapes Go.ChangeAt Go.RowKit
set_option linter.unusedVariables false

/-! ### numbers that fit -/
theorem celB_blank (p : Pn) : CelB (blankC p) := ⟨by show R32 32; unfold R32; omega, r32_0, r32_0, by show 1 < 256; omega⟩
theorem celB_rest (c : Cel) : CelB (restC c) := ⟨r32_0, r32_0, r32_0, by show 0 < 256; omega⟩
theorem LB_tab {n : Nat} {f : Nat → Cel} (h : ∀ i, i < n → CelB (f i)) : LB (tab n f) := by
  intro i hi
  rw [tab_len] at hi
  rw [tab_cAt n f i hi]
  exact h i hi
theorem LB_mend {cs : List Cel} (h : LB cs) : LB (mendC cs) := by
  refine LB_tab fun i hi => ?_
  unfold mendAt
  split
  · exact celB_blank _
  · exact h i hi
theorem LB_new (n : Int) : LB (newC n) := LB_tab fun i hi => celB_blank _
theorem LB_put {cs : List Cel} {a : Int} {c : Cel} (h : LB cs) (hc : CelB c) : LB (putC cs a c) := by
  unfold putC
  split
  · refine LB_mend (LB_tab fun i hi => ?_)
    split
    · exact hc
    · split
      · exact celB_rest _
      · exact h i hi
  · exact h
theorem LB_erase {cs : List Cel} {x y : Int} {p : Pn} (h : LB cs) : LB (eraseC cs x y p) := by
  refine LB_mend (LB_tab fun i hi => ?_)
  split
  · exact celB_blank _
  · exact h i hi
theorem LB_fit {cs : List Cel} {x : Int} (h : LB cs) : LB (fitC cs x) := by
  refine LB_mend (LB_tab fun i hi => ?_)
  split
  · rename_i q; exact h i q
  · exact celB_blank _
theorem celB_mark {c : Cel} {r : Int} (h : CelB c) (hr : R32 r) : CelB (markC c r).1 := by
  obtain ⟨r0, m0, n0, d0, p0⟩ := c
  obtain ⟨h1, h2, h3, h4⟩ := h
  obtain ⟨⟨⟨r1, m1, n1, d1, p1⟩, ok⟩, hm⟩ : ∃ q, markC ⟨r0, m0, n0, d0, p0⟩ r = q := ⟨_, rfl⟩
  rw [hm]
  exact mark_r32 hr h1 h2 h3 h4 hm
theorem LB_mark {cs : List Cel} {a r : Int} (h : LB cs) (hr : R32 r) : LB (lmarkC cs a r).1 := by
  unfold lmarkC
  split
  · rename_i hin
    rw [set_tab]
    refine LB_tab fun i hi => ?_
    split
    · refine celB_mark (h _ ?_) hr
      unfold mkAt; split <;> omega
    · exact h i hi
  · exact h
theorem lmark_len (cs : List Cel) (a r : Int) : (lmarkC cs a r).1.length = cs.length := by
  unfold lmarkC; split
  · simp
  · rfl

/-! ### the contracts -/
/-- The call gave this line of n cells, wherever it lies; all that was there is left. -/
def LineN (k : IntKind) (n : Nat) (X : List Cel) (w : World) (e : Ending) (w' : World) : Prop := ∃ A c, e = .returned (.slice A n c) ∧ Cels k w' A X ∧ Below w.heap.size w w'
/-- .. and told whether. -/
def LineN2 (k : IntKind) (n : Nat) (X : List Cel) (ok : Bool) (w : World) (e : Ending) (w' : World) : Prop := ∃ A c, e = .returned (.tuple #[.slice A n c, .bool ok]) ∧ Cels k w' A X ∧ Below w.heap.size w w'
theorem Lined.line {cs : List Cel} {n : Nat} {w : World} {e : Ending} {w' : World} (h : Lined cs w e w') (hn : cs.length = n) : LineN .i32 n cs w e w' := by
  obtain ⟨g, rfl, -, hw, hb⟩ := h
  subst hn
  exact ⟨_, _, rfl, hw.cels, hb⟩
theorem Lined2.line {cs : List Cel} {ok : Bool} {n : Nat} {w : World} {e : Ending} {w' : World} (h : Lined2 cs ok w e w') (hn : cs.length = n) : LineN2 .i32 n cs ok w e w' := by
  obtain ⟨g, rfl, -, hw, hb⟩ := h
  subst hn
  exact ⟨_, _, rfl, hw.cels, hb⟩
theorem LineV2.line {k : IntKind} {cs : List Cel} {ok : Bool} {n : Nat} {w : World} {e : Ending} {w' : World} (h : LineV2 k cs ok w e w') (hn : cs.length = n) : LineN2 k n cs ok w e w' := by
  obtain ⟨A, c, rfl, hc, hb⟩ := h
  subst hn
  exact ⟨_, _, rfl, hc, hb⟩
theorem MadeC.line {t : TypeId} {k : IntKind} {cs : List Cel} {n : Nat} {w : World} {e : Ending} {w' : World} (h : MadeC t k w cs e w') (hn : cs.length = n) : LineN k n cs w e w' := by
  obtain ⟨v, rfl, ho⟩ := h
  obtain ⟨A, c, rfl, hc, -⟩ := ho.form
  subst hn
  exact ⟨_, _, rfl, hc, ho.bel⟩
section
variable {A C : Option Addr} {n c m d : Nat} {cs xs ys : List Cel} {w : World}
/-- A line that came in, cut: it has an address wherever it has room. -/
theorem lcut_v {X : List Cel} (h : Cels .i32 w A cs) (hn : n ≤ cs.length) (hc : A = none → c = 0) (hnc : n ≤ c) (hX : cs.take (min n 30) = X) : Calls Tryz.prog 41 #[.slice A n c] w (LineN .i32 X.length X w) := by
  refine (lcut_any A n c cs w h hn hc hnc).mono fun e w' q => ?_
  rw [hX] at q
  exact q.line rfl
/-- A line as the document's: it has an address wherever it has room. -/
theorem lineof_v (h : Cels .i32 w A cs) (hn : cs.length = n) (hl : n ≤ 1000000) (hb : LB cs) : Calls Tryz.prog 43 #[.slice A n c] w fun e w' => ∃ A' c', e = .returned (.slice A' n c') ∧ Cels .i64 w' A' cs ∧ Below w.heap.size w w' ∧ (A' = none → c' = 0) := by
  refine (lineof_any A n c cs w h hn hl hb).mono ?_
  rintro e w' ⟨v, rfl, ho⟩
  obtain ⟨A', c', rfl, hc, -, hz, -⟩ := ho.form
  subst hn
  exact ⟨_, _, rfl, hc, ho.bel, hz⟩
theorem put_v (at_ : Int) (r q x : Int) (d' f g b : Nat) (ha : -9223372036854775808 ≤ at_ ∧ at_ < 9223372036854775808) {X : List Cel} {ok : Bool} (hX : putC cs at_ ⟨r, q, x, d', ⟨f, g, b⟩⟩ = X) (hok : putOk cs at_ ⟨r, q, x, d', ⟨f, g, b⟩⟩ = ok) (h : Cels .i32 w A cs) (hn : cs.length = n) (hl : n ≤ 1000000) (hd : d' < 256) (hS : Spans w) :
    Calls Tryz.prog 71 #[.slice A n c, .int .i64 at_, .agg #[.int .i32 r, .int .i32 q, .int .i32 x, .int .u8 (d' : Int), .int .u8 (f : Int), .int .u8 (g : Int), .int .u8 (b : Int)]] w (LineN2 .i32 n X ok w) := by
  subst hX hok
  exact (put_any A n c at_ r q x d' f g b hd cs w h hn hl hS ha).mono fun e w' q => q.line (by rw [put_len, hn])
theorem rput_v (at_ : Int) (r q x : Int) (d' f g b : Nat) (ha : -9223372036854775808 ≤ at_ ∧ at_ < 9223372036854775808) {X : List Cel} {ok : Bool} (hX : putC cs at_ ⟨r, q, x, d', ⟨f, g, b⟩⟩ = X) (hok : putOk cs at_ ⟨r, q, x, d', ⟨f, g, b⟩⟩ = ok) (h : Cels .i64 w A cs) (hn : cs.length = n) (hl : n ≤ 1000000) (hd : d' < 256) :
    Calls Tryz.prog 75 #[.slice A n c, .int .i64 at_, .agg #[.int .i64 r, .int .i64 q, .int .i64 x, .int .u8 (d' : Int), .int .u8 (f : Int), .int .u8 (g : Int), .int .u8 (b : Int)]] w (LineN2 .i64 n X ok w) := by
  subst hX hok
  exact (rput_any A n c at_ r q x d' f g b hd cs w h hn hl ha).mono fun e w' q => q.line (by rw [put_len, hn])
theorem lmark_v (at_ x : Int) {X : List Cel} {ok : Bool} (hX : lmarkC cs at_ x = (X, ok)) (h : Cels .i32 w A cs) (hn : cs.length = n) (hl : n ≤ 1000000) (hS : Spans w) :
    Calls Tryz.prog 79 #[.slice A n c, .int .i64 at_, .int .i32 x] w (LineN2 .i32 n X ok w) := by
  refine (lmark_any A n c at_ x cs w h hn hl hS).mono fun e w' q => ?_
  have := q.line (n := n) (by rw [lmark_len, hn])
  rwa [hX] at this
theorem rlmark_v (at_ x : Int) {X : List Cel} {ok : Bool} (hX : lmarkC cs at_ x = (X, ok)) (h : Cels .i64 w A cs) (hn : cs.length = n) (hl : n ≤ 1000000) (hA : A = none → c = 0) :
    Calls Tryz.prog 77 #[.slice A n c, .int .i64 at_, .int .i64 x] w (LineN2 .i64 n X ok w) := by
  refine (rlmark_any A n c at_ x cs w h hn hl hA).mono fun e w' q => ?_
  have := q.line (n := n) (by rw [lmark_len, hn])
  rwa [hX] at this
theorem erase_v (x y : Int) (f g b : Nat) {X : List Cel} (hX : eraseC cs x y ⟨f, g, b⟩ = X) (h : Cels .i32 w A cs) (hn : cs.length = n) (hl : n ≤ 1000000) : Calls Tryz.prog 65 #[.slice A n c, .int .i64 x, .int .i64 y, .agg #[.int .u8 (f : Int), .int .u8 (g : Int), .int .u8 (b : Int)]] w (LineN .i32 n X w) := by
  subst hX
  exact (erase_any A n c x y f g b cs w h hn hl).mono fun e w' q => q.line (by rw [erase_len, hn])
theorem rerase_v (x y : Int) (f g b : Nat) {X : List Cel} (hX : eraseC cs x y ⟨f, g, b⟩ = X) (h : Cels .i64 w A cs) (hn : cs.length = n) (hl : n ≤ 1000000) : Calls Tryz.prog 81 #[.slice A n c, .int .i64 x, .int .i64 y, .agg #[.int .u8 (f : Int), .int .u8 (g : Int), .int .u8 (b : Int)]] w (LineN .i64 n X w) := by
  subst hX
  exact (rerase_any A n c x y f g b cs w h hn hl).mono fun e w' q => q.line (by rw [erase_len, hn])
theorem fit_v (x : Int) {N : Nat} {X : List Cel} (hX : fitC cs x = X) (hN : lenN x = N) (h : Cels .i32 w A cs) (hn : cs.length = n) : Calls Tryz.prog 60 #[.slice A n c, .int .i64 x] w (LineN .i32 N X w) := by
  subst hX
  exact (lfit_any A n c x cs w h hn).mono fun e w' q => q.line (by rw [fit_len, hN])
theorem rfit_v (x : Int) {N : Nat} {X : List Cel} (hX : fitC cs x = X) (hN : lenN x = N) (h : Cels .i64 w A cs) (hn : cs.length = n) (hl : n ≤ 1000000) : Calls Tryz.prog 85 #[.slice A n c, .int .i64 x] w (LineN .i64 N X w) := by
  subst hX
  exact (rlfit_any A n c x cs w h hn hl).mono fun e w' q => q.line (by rw [fit_len, hN])
theorem rmend_v {X : List Cel} (hX : mendC cs = X) (h : Cels .i64 w A cs) (hn : cs.length = n) (hl : n ≤ 1000000) : Calls Tryz.prog 101 #[.slice A n c] w (LineN .i64 n X w) := by
  subst hX
  exact (rmend_any A n c cs w h hn hl).mono fun e w' q => q.line (by rw [mend_len, hn])
theorem new_v (x : Int) {N : Nat} {X : List Cel} (hX : newC x = X) (hN : lenN x = N) (w : World) : Calls Tryz.prog 29 #[.int .i64 x] w (LineN .i32 N X w) := by
  subst hX
  exact (new_any x w).mono fun e w' q => q.line (by rw [new_len, hN])
theorem rnew_v (x : Int) {N : Nat} {X : List Cel} (hX : newC x = X) (hN : lenN x = N) (w : World) : Calls Tryz.prog 36 #[.int .i64 x] w (LineN .i64 N X w) := by
  subst hX
  exact (rnew_any x w).mono fun e w' q => q.line (by rw [new_len, hN])
theorem same6_v {X : List Cel} (ha : Cels .i32 w A X) (hb : Cels .i32 w C X) (hn : X.length = n) (hl : n ≤ 1000000) : Calls Tryz.prog 62 #[.slice A n c, .slice C n d] w (Said true w) := by
  have := same6_any A C n c n d X X w ha hb hn hn hl
  simpa using this
end
end Go.Proofs.YtiifeniijcnahaaGreatDoor
