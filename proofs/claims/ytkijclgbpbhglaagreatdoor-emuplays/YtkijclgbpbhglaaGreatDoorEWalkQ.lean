/-
 The walk of the law EmuPlays.
-/
import Derived.Test.YtkijclgbpbhglaaGreatDoorQd33
import Derived.Test.YtkijclgbpbhglaaGreatDoorQd34
import Derived.Test.YtkijclgbpbhglaaGreatDoorQd36
import Derived.Test.YtkijclgbpbhglaaGreatDoorQd18
import Derived.Test.YtkijclgbpbhglaaGreatDoorQd1
import Derived.Lib.SlBytesConst
import Derived.Lib.MinMax
import Derived.Deep.DeepCutAuto
namespace Go.Proofs.YtkijclgbpbhglaaGreatDoor
set_option maxRecDepth 100000
open Go.ChangeShapes Go.WideShapes Go.ChangeAt Go.RowKit
set_option linter.unusedVariables false
section
theorem u8_bd {a : Int} (h : (Lit.int .u8 a).wf = true) : 0 ≤ a ∧ a ≤ 255 := by
 simpa [Lit.wf, IntKind.min, IntKind.max, IntKind.signed, IntKind.bits] using h
end
section
theorem byte_of {zs : List Int} (h : ∀ n ∈ zs, (Lit.int .u8 n).wf = true) (n : Nat) : Byte (zs.take n) := fun x hx => u8_bd (h x (List.mem_of_mem_take hx))
end
section
variable {w0 w w' : World} {b1 b2 : Bl} {L1 L2 L R C : Nat} {e1 e2 e' : Em}
theorem Two.second (h : Two w0 w b1 L1 b2 L2 R C e1 e2) (k : At b2 w L2 w' L R C e') : Two w0 w' b1 L1 b2 L R C e1 e' :=
 ⟨h.e.far k.ch (fun x hx hy => h.ap x hy hx) h.d.no0, k.emu, fun x hx hy => by
  rcases near_mem k.near x hx with q | q
  ·exact h.ap x q hy
  ·have := h.e.lt x hy; omega, h.l1, h.l2.at k h.bel.size, k.ch.below h.bel h.bel.size h.l2, h.pos⟩
end
section
variable {w0 w w' : World} {b1 b2 : Bl} {L1 L2 L R C : Nat} {e1 e2 e' : Em}
theorem Two.made (h1 : Emu w b1 L1 R C e1) (hl : Low w0.heap.size b1 L1) (hb : Below w0.heap.size w0 w) (hp : 0 < w0.heap.size) (k : MadeE R C e2 w b2 L2 w') : Two w0 w' b1 L1 b2 L2 R C e1 e2 :=
 ⟨h1.later k.2.1, k.1, fun x hx hy => by have := h1.lt x hy; have := k.2.2 x hx; omega, hl, k.2.2.mono hb.size, hb.trans (k.2.1.mono hb.size), hp⟩
end
def PlaysR (w : World) (q E k : Nat) (wr : World) : Prop := ∃ (G M P L R C : Nat) (ej : Em) (A5 : Option Addr) (cap5 : Nat) (N5 : Option Addr) (ln5 cn5 : Nat) (H5 : Option Addr) (lh5 ch5 : Nat),
 DoesR w ⟨E, G, M, P⟩ R C q wr ej L A5 cap5 N5 ln5 cn5 H5 lh5 ch5 ∧ ej.p.n.length ≤ 80 * k
theorem PlaysR.later {w wr w' : World} {q E k : Nat} (h : PlaysR w q E k wr) (hb : Below wr.heap.size wr w') : PlaysR w q E k w' := by
 obtain ⟨G, M, P, L, R, C, ej, A5, cap5, N5, ln5, cn5, H5, lh5, ch5, hd, hn⟩ := h
 exact ⟨G, M, P, L, R, C, ej, A5, cap5, N5, ln5, cn5, H5, lh5, ch5, ⟨hd.1.later hb, hd.2.1, hd.2.2.1.later hb, hd.2.2.2.1.below hb, hd.2.2.2.2.trans (hb.mono hd.2.2.2.2.size)⟩, hn⟩
theorem Ch.more {xs ys : List Nat} {w w' : World} (h : Ch xs w w') (hs : ∀ x ∈ xs, x ∈ ys) : Ch ys w w' := ⟨h.os, h.tape, h.output, h.size, fun i hi hx => h.block i hi (fun q => hx (hs i q))⟩
section
variable {w wr v : World} {E G M P R C q L R2 C2 : Nat} {ej e2 : Em} {A5 : Option Addr} {cap5 : Nat} {N5 : Option Addr} {ln5 cn5 : Nat} {H5 : Option Addr} {lh5 ch5 : Nat}
theorem DoesR.sized (h : DoesR w ⟨E, G, M, P⟩ R C q wr ej L A5 cap5 N5 ln5 cn5 H5 lh5 ch5) (k : Sized ⟨E, G, M, P⟩ L R2 C2 e2 wr v) :
  ∃ G2 M2 P2 L2, Emu v ⟨E, G2, M2, P2⟩ L2 R2 C2 e2 ∧ Low w.heap.size ⟨E, G2, M2, P2⟩ L2 ∧ Whole v q 40 [.slice A5 R cap5, .int .i64 ej.g.row, .int .i64 ej.g.col, .int .i64 ej.p.st, .slice N5 ln5 cn5, .slice H5 lh5 ch5, .int .u8 ej.pen.f, .int .u8 ej.pen.g, .int .u8 ej.pen.b, .bool ej.wrap] ∧ Doc v ⟨A5, cap5, N5, ln5, cn5, H5, lh5, ch5⟩ ej ∧ Below w.heap.size w v := by
 obtain ⟨⟨E', G2, M2, P2⟩, L2, hE, he, hc, hl⟩ := k
 have hE' : E = E' := hE.symm
 subst hE'
 obtain ⟨h1, h2, h3, h4, h5⟩ := h
 have hcc : Ch (Bl.l ⟨E, G, M, P⟩ L) wr v := hc.more (by simp [Bl.l])
 exact ⟨G2, M2, P2, L2, he, hl _ h2 h5.size, hcc.whole h3 (h1.other h3 (by decide)), h4.turn h1 hcc, hcc.below h5 h5.size h2⟩
end
theorem Two.only {w0 w w' : World} {b1 b2 : Bl} {L1 L2 R C q : Nat} {e1 e2 : Em} (h : Two w0 w b1 L1 b2 L2 R C e1 e2) (ho : Only q w w') (h1 : q ∉ b1.l L1) (h2 : q ∉ b2.l L2) (hq : w0.heap.size ≤ q) : Two w0 w' b1 L1 b2 L2 R C e1 e2 :=
 ⟨h.e.far (Ch.of_only ho (by simp : q ∈ [q])) (fun x hx hy => by simp at hy; exact h1 (hy ▸ hx)) (by have := h.pos; simp; omega),
  h.d.far (Ch.of_only ho (by simp : q ∈ [q])) (fun x hx hy => by simp at hy; exact h2 (hy ▸ hx)) (by have := h.pos; simp; omega), h.ap, h.l1, h.l2, ho.below h.bel h.bel.size hq, h.pos⟩
theorem feed_n {e : Em} {R C k : Nat} (h : EOk e R C) {bs : List Int} (hb : Byte bs) (hn : bs.length ≤ 40) (hk : e.p.n.length ≤ 80 * k) : (feedE e C bs).p.n.length ≤ 80 * (k + 1) := by
 have := (feed_facts bs e.p h.p hb).2.1
 show (feedP e.p bs).1.n.length ≤ _
 omega
set_option maxHeartbeats 8000000 in
theorem emuPlays_walk (rows cols : Int) (a : Option Addr) (len cap : Nat) (w : World) (hr : (Lit.int .i64 rows).wf = true) (hc : (Lit.int .i64 cols).wf = true) (hst : StepsIn w a len) (hS : Spans w) :
  Calls Tryz.prog 3 #[.int .i64 rows, .int .i64 cols, .slice a len cap] w fun e w' => e = .returned (.bool true) ∧ Below w.heap.size w w' := by
 have HST := hide hst; have HS := hide hS; clear hr hc hst hS
 obtain ⟨sr, hsr⟩ := exq (smallE rows)
 obtain ⟨sc, hsc⟩ := exq (smallE cols)
 have HSR := hide hsr; have HSC := hide hsc; clear hsr hsc
 by_cases hs : sizeN sr sc
 ·obtain ⟨R0, C0, rfl, rfl, q1, q2, q3, q4⟩ := sizeE hs
  have HSZ : Hid (sizeB (R0 : Int) (C0 : Int) = true) := by unfold Hid sizeB; simpa using hs
  clear hs
  go_enter Tryz.func3, Tryz.ntmps3
  go_wp2_with fail
  refine (esmall_any rows w).mono ?_
  rintro e w1 ⟨rfl, rfl⟩
  rw [HSR.out]
  go_wp2_with fail
  refine (esmall_any cols w).mono ?_
  rintro e w1 ⟨rfl, rfl⟩
  rw [HSC.out]
  go_wp2_with fail
  refine (enew_yes R0 C0 q1 q2 q3 q4 w HS.out).mono ?_
  rintro e w1 ⟨b, L, rfl, hm⟩
  obtain ⟨E0, hE0⟩ := exq (b.E)
  rw [hE0]
  obtain ⟨E', G, M, P⟩ := b
  have hE' : E0 = E' := hE0.symm
  subst hE'
  have HM := hide hm; clear hm hE0; go_wp2_with fail
  refine (rsize_any R0 C0 w1).mono ?_
  rintro e w2 ⟨rfl, rfl⟩
  rw [HSZ.out]
  go_wp2_with fail
  refine (renew_any R0 C0 q1 q2 w1).mono ?_
  rintro e w2 hx
  obtain ⟨A2, cap2, N2, ln2, cn2, H2, lh2, ch2, rfl, hd2, hb2⟩ := hx.lit
  obtain ⟨q, hq⟩ := exq (w2.heap.size)
  obtain ⟨W3, hW3⟩ := exq (w2.alloc (.cells #[.slice A2 R0 cap2, .int .i64 ((newE R0 C0).g.row : Int), .int .i64 ((newE R0 C0).g.col : Int), .int .i64 (newE R0 C0).p.st, .slice N2 ln2 cn2, .slice H2 lh2 ch2, .int .u8 ((newE R0 C0).pen.f : Int), .int .u8 ((newE R0 C0).pen.g : Int), .int .u8 ((newE R0 C0).pen.b : Int), .bool (newE R0 C0).wrap] 40))
  have hb3 : Below w2.heap.size w2 W3 := by rw [← hW3]; exact new1W _ _
  have hb13 : Below w1.heap.size w1 W3 := hb2.trans (hb3.mono hb2.size)
  have HR0 : Hid (PlaysR w q E0 0 W3) := ⟨G, M, P, L, R0, C0, newE R0 C0, A2, cap2, N2, ln2, cn2, H2, lh2, ch2, ⟨HM.out.1.later hb13, HM.out.2.2, by rw [← hW3, ← hq]; exact Whole.new w2 40 [.slice A2 R0 cap2, .int .i64 ((newE R0 C0).g.row : Int), .int .i64 ((newE R0 C0).g.col : Int), .int .i64 (newE R0 C0).p.st, .slice N2 ln2 cn2, .slice H2 lh2 ch2, .int .u8 ((newE R0 C0).pen.f : Int), .int .u8 ((newE R0 C0).pen.g : Int), .int .u8 ((newE R0 C0).pen.b : Int), .bool (newE R0 C0).wrap], hd2.below hb3, HM.out.2.1.trans (hb13.mono HM.out.2.1.size)⟩, Nat.le_refl _⟩
  have HQW : Hid (w.heap.size ≤ q) := by unfold Hid; rw [← hq]; exact Nat.le_trans HM.out.2.1.size hb2.size
  have HW3 := hide hW3; have HQ := hide hq; clear hx hd2 hb2 hb3 hb13 hW3 hq
  obtain ⟨mm, hm1, hm2, hm3⟩ : ∃ mm : Nat, mm ≤ len ∧ mm ≤ 20 ∧ (mm = len ∨ mm = 20) := ⟨min len 20, by omega, by omega, by omega⟩
  go_wp2
  try rw [HW3.out, HQ.out]
  clear HM HSZ
  go_loopw [10, 11, 12, 13, 14, 15, 16] (fun i _ _ _ _ _ _ wr => ∃ (k : Nat), k ≤ mm ∧ i = .int .i64 k ∧ PlaysR w q E0 k wr) (fun i _ _ _ _ _ _ _ => mm - (intOf i).toNat)
  case atStart => exact ⟨0, Nat.zero_le _, rfl, HR0.out⟩
  case round =>
   obtain ⟨k, hk, rfl, hrr⟩ := hrel
   have HRR := hide hrr; clear hrr
   go_upto_region 9 with fail
   go_cut [56] (fun v wx => v = .bool (decide (k < mm)) ∧ wx = wr)
   case first =>
    by_cases hkm : k < mm
    ·have g1 : (k : Int) < (len : Int) := by omega
     have g2 : (k : Int) < 20 := by omega
     go_wp2
     go_meet
     case rel => exact ⟨by rw [decide_eq_true hkm], rfl⟩
    ·by_cases g1 : k < len
     ·have g2' : decide ((k : Int) < 20) = false := by simp; omega
      go_wp2
      go_meet
      case rel => exact ⟨by rw [decide_eq_false hkm], rfl⟩
     ·have g1' : decide ((k : Int) < (len : Int)) = false := by simp; omega
      go_wp2
      go_meet
      case rel => exact ⟨by rw [decide_eq_false hkm], rfl⟩
   case rest =>
    obtain ⟨hv, hwc⟩ := hcut
    subst hv
    rw [hwc]
    clear hwc
    by_cases hkm : k < mm
    ·have hd : decide (k < mm) = true := by simp [hkm]
     rw [hd]
     clear hd; have HKM := hide hkm
     rcases HST.out with h0 | ⟨bb, off, rfl, hall⟩
     ·exfalso; omega
     obtain ⟨A, n, c, zs, r, co, y0, y1, y2, hin⟩ := hall k (by omega)
     have hblt := block_lt_of_cell y0
     have HBW : Hid (Below w.heap.size w wr) := by
      obtain ⟨G1, M1, P1, L1, R1, C1, e1, A5, cap5, N5, ln5, cn5, H5, lh5, ch5, hdr, -⟩ := HRR.out
      exact hdr.2.2.2.2
     have z0 : wr.cell? ⟨bb, off + k * 3, none⟩ = some (.slice A n c) := (HBW.out.cell (p := ⟨bb, off + k * 3, none⟩) hblt).trans y0
     have z1 : wr.cell? ⟨bb, off + k * 3 + 1, none⟩ = some (.int .i64 r) := (HBW.out.cell (p := ⟨bb, off + k * 3 + 1, none⟩) hblt).trans y1
     have z2 : wr.cell? ⟨bb, off + k * 3 + 2, none⟩ = some (.int .i64 co) := (HBW.out.cell (p := ⟨bb, off + k * 3 + 2, none⟩) hblt).trans y2
     obtain ⟨hzl, hnc, hn0, hmaxc⟩ := hin.len
     have hmaxc2 := hmaxc
     unfold maxLen at hmaxc2
     obtain ⟨n4, hn4, hnb, hnn⟩ : ∃ n4 : Nat, min (n : Int) 40 = (n4 : Int) ∧ n4 ≤ 40 ∧ n4 ≤ n := ⟨min n 40, by omega, by omega, by omega⟩
     have hyb : Byte (zs.take n4) := byte_of hin.wf n4
     obtain ⟨ys, hys⟩ := exq (zs.take n4)
     rw [hys] at hyb
     have HYB := hide hyb
     have HYL : Hid (ys.length = n4) := by unfold Hid; rw [← hys, List.length_take, hzl]; omega
     have HIY : Hid (Ints .u8 w A ys) := by unfold Hid; rw [← hys]; exact hin.ints.take n4
     have f0 : (0 : Int) ≤ (n4 : Int) := by omega
     have f1 : (n4 : Int) ≤ (c : Int) := by omega
     have HG1 : Hid ((k : Int) < (len : Int)) := by unfold Hid; omega
     have g1 := HG1.out
     have g1n : k < len := by omega
     clear hall y0 y1 y2 hys hkm hzl hin hyb
     obtain ⟨qx, hqx⟩ := exq (wr.heap.size)
     go_upto_region 13 with fail
     obtain ⟨W2, hW2⟩ := exq (wr.alloc (.cells #[.slice A n c, .int .i64 r, .int .i64 co] 43))
     have hb2 : Below wr.heap.size wr W2 := by rw [← hW2]; exact new1W _ _
     have HXB : Hid (Whole W2 qx 43 [.slice A n c, .int .i64 r, .int .i64 co]) := by unfold Hid; rw [← hW2, ← hqx]; exact Whole.new _ _ _
     have HPR := hide (HRR.out.later hb2)
     rw [hW2]
     clear hb2 z0 z1 z2 hW2 hqx
     obtain ⟨bq, hbq⟩ := exq ((r != 0))
     obtain ⟨x0, x1, x2, lX⟩ := cells3 HXB.out
     go_cut [72] (fun v wx => v = .bool bq ∧ wx = W2)
     case first =>
      go_wp2
      go_meet
      case rel => exact ⟨rfl, rfl⟩
     case rest =>
      obtain ⟨hv, hwc⟩ := hcut
      subst hv
      rw [hwc]
      clear hwc hbq x0 x1 x2 lX
      go_upto_if 72 with fail
      go_cut [] (fun wx => PlaysR w q E0 k wx)
      case first =>
       cases hb : bq
       ·go_wp2
        go_meet
        case rel => exact HPR.out
       ·obtain ⟨x0, x1, x2, lX⟩ := cells3 HXB.out
        obtain ⟨s2, hs2⟩ := exq (smallE r)
        obtain ⟨t2, ht2⟩ := exq (smallE co)
        have HS2 := hide hs2; have HT2 := hide ht2; clear hs2 ht2; go_wp2
        refine rgL (fun w' => Below W2.heap.size W2 w') 7 [(0, 0), (0, 3), (0, 1), (0, 4), (1, 2), (1, 5), (1, 6), (3, 7)] bd1 ?_
        refine stL (h := ?_)
        refine stL (h := ?_)
        refine stL (hy := fun w hS => by obtain ⟨x0, x1, x2, -⟩ := cells3 (HXB.out.later hS); go_simp <;> with_reducible rfl) (h := ?_)
        refine stL (hy := fun w hS => by obtain ⟨x0, x1, x2, -⟩ := cells3 (HXB.out.later hS); go_simp <;> with_reducible rfl) (h := ?_)
        refine alL fun K hK => ?_
        go_wp2_with fail
        refine (esmall_any r _).mono ?_
        rintro e y1 ⟨rfl, rfl⟩
        rw [HS2.out]
        go_wp2
        refine hK.out _ _ bd1 ?_
        clear hK K
        refine alL fun K hK => ?_
        go_wp2_with fail
        refine (esmall_any co _).mono ?_
        rintro e y1 ⟨rfl, rfl⟩
        rw [HT2.out]
        go_wp2
        refine hK.out _ _ bd1 ?_
        clear hK K
        refine alL fun K hK => ?_
        go_wp2
        refine hK.out _ _ bd1 ?_
        clear hK K
        refine laL fun K hK => ?_
        go_wp2
        refine hK.out _ _ ?_
        clear hK K
        refine chainL_nil ?_
        have HPD := hide (HPR.out.later bd1)
        obtain ⟨G1, M1, P1, L1, R1, C1, e1, A5, cap5, N5, ln5, cn5, H5, lh5, ch5, hdr, hln⟩ := HPD.out
        have HDR := hide hdr; have HLN := hide hln; clear hdr hln x0 x1 x2 lX
        by_cases hs : sizeN s2 t2
        ·obtain ⟨R2, C2, rfl, rfl, p1, p2, p3, p4⟩ := sizeE hs
         have HSZ2 : Hid (sizeB (R2 : Int) (C2 : Int) = true) := by unfold Hid sizeB; simpa using hs
         clear hs; go_wp2_with fail
         refine (eresize_yes HDR.out.1 R2 C2 p1 p2 p3 p4).mono ?_
         rintro e v1 ⟨rfl, hsz⟩
         obtain ⟨G2, M2, P2, L2, he2, hl2, hm2, hd2, hb2⟩ := DoesR.sized HDR.out hsz
         have HE2 := hide he2; have HL2 := hide hl2; have HM2 := hide hm2; have HD2 := hide hd2; have HB2 := hide hb2; clear hsz he2 hl2 hm2 hd2 hb2; go_wp2_with fail
         refine (rsize_any R2 C2 v1).mono ?_
         rintro e v2 ⟨rfl, rfl⟩
         rw [HSZ2.out]
         obtain ⟨t0, t1, t2, t3, t4, t5, t6, t7, t8, t9, tl⟩ := cells10 HM2.out
         go_wp2_with fail
         refine (rresize9_any HD2.out HDR.out.1.ok R2 C2 p1 p2 p3 p4).mono ?_
         rintro x k5 hx
         obtain ⟨A6, cap6, N6, ln6, cn6, H6, lh6, ch6, rfl, hd5, hb5⟩ := hx.lit
         clear t0 t1 t2 t3 t4 t5 t6 t7 t8 t9 tl; clear hx
         have hp5 := HM2.out.later hb5
         obtain ⟨W6, hW6⟩ := exq (((((((((((k5.setCell ⟨q, 0, none⟩ (.slice A6 R2 cap6)).setCell ⟨q, 1, none⟩ (.int .i64 ((resizeE e1 R2 C2).g.row : Int))).setCell ⟨q, 2, none⟩ (.int .i64 ((resizeE e1 R2 C2).g.col : Int))).setCell ⟨q, 3, none⟩ (.int .i64 (resizeE e1 R2 C2).p.st)).setCell ⟨q, 4, none⟩ (.slice N6 ln6 cn6)).setCell ⟨q, 5, none⟩ (.slice H6 lh6 ch6)).setCell ⟨q, 6, none⟩ (.int .u8 ((resizeE e1 R2 C2).pen.f : Int))).setCell ⟨q, 7, none⟩ (.int .u8 ((resizeE e1 R2 C2).pen.g : Int))).setCell ⟨q, 8, none⟩ (.int .u8 ((resizeE e1 R2 C2).pen.b : Int))).setCell ⟨q, 9, none⟩ (.bool (resizeE e1 R2 C2).wrap)))
         have ho6 : Only q k5 W6 := by rw [← hW6]; exact only10 _ _ _ _ _ _ _ _ _ _
         have he5 := HE2.out.later hb5
         have hq5 := HE2.out.other HM2.out (by decide)
         have hbb5 := HB2.out.trans (hb5.mono HB2.out.size)
         have HP6 : Hid (PlaysR w q E0 k W6) := ⟨G2, M2, P2, L2, R2, C2, resizeE e1 R2 C2, A6, cap6, N6, ln6, cn6, H6, lh6, ch6, ⟨he5.far (Ch.of_only ho6 (by simp : q ∈ [q])) (fun x hx hy => by simp at hy; exact hq5 (hy ▸ hx)) (by have := HQW.out; have := HS.out.size; simp; omega), HL2.out, by rw [← hW6]; exact put10 hp5 _ _ _ _ _ _ _ _ _ _, hd5.only ho6 hp5, ho6.below hbb5 hbb5.size HQW.out⟩, HLN.out⟩
         obtain ⟨t0, t1, t2, t3, t4, t5, t6, t7, t8, t9, tl⟩ := cells10 hp5
         have zp5 := hp5.frozen
         clear hp5 ho6 he5 hq5 hbb5 hd5 hb5; go_wp2
         try rw [hW6]
         go_meet
         case rel => exact HP6.out
        ·have HSZ2 : Hid (sizeB s2 t2 = false) := by unfold Hid sizeB; simpa using hs
         go_wp2_with fail
         refine (eresize_no HDR.out.1 s2 t2 hs).mono ?_
         rintro e v1 ⟨rfl, hb1⟩
         have HP6 := hide (HPD.out.later hb1)
         clear hb1 hs; go_wp2_with fail
         refine (rsize_any s2 t2 v1).mono ?_
         rintro e v2 ⟨rfl, rfl⟩
         rw [HSZ2.out]
         go_wp2
         go_meet
         case rel => exact HP6.out
      case rest =>
       have HCUT := hide hcut; clear hcut
       obtain ⟨G, M, P, L1, R, C, em, A5, cap5, N5, ln5, cn5, H5, lh5, ch5, hdr, hln⟩ := HCUT.out
       have HDR := hide hdr; have HLN := hide hln; clear hdr hln HPR HRR HXB HBW HR0
       have hR2 := HDR.out.1.ok.g.r2
       have hC1 := HDR.out.1.ok.g.c1
       go_wp2_with fail
       refine (ecopy_any HDR.out.1).mono ?_
       rintro e w3 ⟨b2, L2, rfl, hm⟩
       have HT3 : Hid (Two w w3 ⟨E0, G, M, P⟩ L1 b2 L2 R C em em) := Two.made HDR.out.1 HDR.out.2.1 HDR.out.2.2.2.2 HS.out.size hm
       have HM3 := hide (HDR.out.2.2.1.later hm.2.1)
       have HD3 := hide (HDR.out.2.2.2.1.below hm.2.1)
       clear hm
       obtain ⟨t0, t1, t2, t3, t4, t5, t6, t7, t8, t9, tl⟩ := cells10 HM3.out
       go_wp2_with fail
       refine (ealike_any HT3.out.d HD3.out).mono ?_
       rintro x w4 ⟨rfl, hb⟩
       have HT4 := hide (HT3.out.later hb)
       have HM4 := hide (HM3.out.later hb)
       have HD4 := hide (HD3.out.below hb)
       clear t0 t1 t2 t3 t4 t5 t6 t7 t8 t9 tl; clear hb; go_wp2_with fail
       refine (efeed_gen HT4.out.e A n4 c ys (fun w2 hc => Ints.below HIY.out (hc.below HT4.out.bel HT4.out.bel.size HT4.out.l1)) HYL.out HYB.out (by omega)).mono ?_
       rintro e w5 ⟨rfl, L3, ha⟩
       obtain ⟨en, hen⟩ := exq (feedE em C ys)
       have HEN := hide hen
       rw [hen] at ha
       have HT5 := hide (HT4.out.first ha)
       have HM5 := hide (HT4.out.e.keeps ha HM4.out (by decide))
       have HD5 := hide (HD4.out.turn HT4.out.e ha.ch)
       have HLE : Hid (ln5 ≤ 5000) := by
        unfold Hid
        have h1 : em.p.n.length = ln5 := HD4.out.dp.nl
        have := HLN.out
        have := HKM.out
        omega
       have hrf := refeed_any HD5.out HT4.out.e.ok HLE.out A n4 c ys (Ints.below HIY.out HT5.out.bel) HYL.out (by omega) HYB.out
       rw [hen] at hrf
       have HRF := hide hrf; clear hen ha hrf
       obtain ⟨t0, t1, t2, t3, t4, t5, t6, t7, t8, t9, tl⟩ := cells10 HM5.out
       go_wp2_with fail
       refine HRF.out.mono ?_
       rintro x k5 hx
       obtain ⟨A6, cap6, N6, ln6, cn6, H6, lh6, ch6, rfl, hd5, hb5⟩ := hx.lit
       clear t0 t1 t2 t3 t4 t5 t6 t7 t8 t9 tl; clear hx HRF
       have hp5 := HM5.out.later hb5
       obtain ⟨W6, hW6⟩ := exq (((((((((((k5.setCell ⟨q, 0, none⟩ (.slice A6 R cap6)).setCell ⟨q, 1, none⟩ (.int .i64 en.g.row)).setCell ⟨q, 2, none⟩ (.int .i64 en.g.col)).setCell ⟨q, 3, none⟩ (.int .i64 en.p.st)).setCell ⟨q, 4, none⟩ (.slice N6 ln6 cn6)).setCell ⟨q, 5, none⟩ (.slice H6 lh6 ch6)).setCell ⟨q, 6, none⟩ (.int .u8 en.pen.f)).setCell ⟨q, 7, none⟩ (.int .u8 en.pen.g)).setCell ⟨q, 8, none⟩ (.int .u8 en.pen.b)).setCell ⟨q, 9, none⟩ (.bool en.wrap)))
       have ho6 : Only q k5 W6 := by rw [← hW6]; exact only10 _ _ _ _ _ _ _ _ _ _
       have HT6 : Hid (Two w W6 ⟨E0, G, M, P⟩ L3 b2 L2 R C en em) := (HT5.out.later hb5).only ho6 (HT5.out.e.other HM5.out (by decide)) (HT5.out.d.other HM5.out (by decide)) HQW.out
       have HM6 : Hid (Whole W6 q 40 [.slice A6 R cap6, .int .i64 en.g.row, .int .i64 en.g.col, .int .i64 en.p.st, .slice N6 ln6 cn6, .slice H6 lh6 ch6, .int .u8 en.pen.f, .int .u8 en.pen.g, .int .u8 en.pen.b, .bool en.wrap]) := by unfold Hid; rw [← hW6]; exact put10 hp5 _ _ _ _ _ _ _ _ _ _
       have HD6 := hide (hd5.only ho6 hp5)
       have HW6 := hide hW6
       obtain ⟨t0, t1, t2, t3, t4, t5, t6, t7, t8, t9, tl⟩ := cells10 hp5
       have zp5 := hp5.frozen
       clear hp5 ho6 hd5 hb5 hW6; go_wp2_with fail
       rw [HW6.out]
       clear zp5; clear t0 t1 t2 t3 t4 t5 t6 t7 t8 t9 tl
       refine (efeed_gen HT6.out.d A n4 c ys (fun w2 hc => Ints.below HIY.out (hc.below HT6.out.bel HT6.out.bel.size HT6.out.l2)) HYL.out HYB.out (by omega)).mono ?_
       rintro e w7 ⟨rfl, L4, ha⟩
       rw [HEN.out] at ha
       have HT7 := hide (HT6.out.second ha)
       have HM7 := hide (HT6.out.d.keeps ha HM6.out (by decide))
       have HD7 := hide (HD6.out.turn HT6.out.d ha.ch)
       clear ha
       obtain ⟨t0, t1, t2, t3, t4, t5, t6, t7, t8, t9, tl⟩ := cells10 HM7.out
       go_wp2_with fail
       refine (ealike_any HT7.out.e HD7.out).mono ?_
       rintro x w8 ⟨rfl, hb⟩
       have HT8 := hide (HT7.out.later hb)
       have HM8 := hide (HM7.out.later hb)
       have HD8 := hide (HD7.out.below hb)
       clear t0 t1 t2 t3 t4 t5 t6 t7 t8 t9 tl; clear hb
       obtain ⟨t0, t1, t2, t3, t4, t5, t6, t7, t8, t9, tl⟩ := cells10 HM8.out
       go_wp2_with fail
       refine (ealike_any HT8.out.d HD8.out).mono ?_
       rintro x w9 ⟨rfl, hb⟩
       have HT9 := hide (HT8.out.later hb)
       have HM9 := hide (HM8.out.later hb)
       have HD9 := hide (HD8.out.below hb)
       clear t0 t1 t2 t3 t4 t5 t6 t7 t8 t9 tl; clear hb; go_wp2_with fail
       refine (egrid_any HT9.out.e).mono ?_
       rintro e w10 ⟨G5, L5, O5, rfl, hg5, hb, -⟩
       have HT10 := hide (HT9.out.later hb)
       have HM10 := hide (HM9.out.later hb)
       have HD10 := hide (HD9.out.below hb)
       have HG5 := hide hg5; clear hb hg5; go_wp2_with fail
       refine (gright_yes HG5.out HT10.out.e.ok.g HT10.out.e.sp).mono ?_
       rintro x w11 ⟨rfl, hb⟩
       have HT11 := hide (HT10.out.later hb)
       have HM11 := hide (HM10.out.later hb)
       have HD11 := hide (HD10.out.below hb)
       clear hb
       obtain ⟨qb, hqb⟩ := exq (w11.heap.size)
       obtain ⟨W0, hW0⟩ := exq (w11.alloc (.cells #[.int .u8 27, .int .u8 91, .int .u8 72, .int .u8 120, .int .u8 27, .int .u8 91, .int .u8 51] 5 (7, 8)))
       have hb0 : Below w11.heap.size w11 W0 := by rw [← hW0]; exact new1W _ _
       have HI : Hid (Ints .u8 W0 (some ⟨qb, 0, none⟩) [27, 91, 72, 120, 27, 91, 51]) := by unfold Hid; rw [← hW0, ← hqb]; exact Ints.newF .u8 w11 5 (7, 8) [27, 91, 72, 120, 27, 91, 51]
       have HNQ : Hid (qb ∉ b2.l L4) := by unfold Hid; intro hx; have := HT11.out.d.lt _ hx; omega
       have HT12 := hide (HT11.out.later hb0)
       have HM12 := hide (HM11.out.later hb0)
       have HD12 := hide (HD11.out.below hb0)
       have HW0 := hide hW0; have HQB := hide hqb; clear hb0 hW0 hqb
       have kc := fun (w : World) (C : Array Value) (n c : Nat) => Lib.run_convert_bytes_const (P := Tryz.prog) w 34 5 C n c Tryz.underlying34 Tryz.underlying5
       go_wp2_with fail
       rw [HW0.out, HQB.out]
       refine (efeed_new HT12.out.d qb 0 7 7 [27, 91, 72, 120, 27, 91, 51] HI.out HNQ.out rfl (by intro x hx; simp at hx; omega) (by omega)).mono ?_
       rintro e w13 ⟨rfl, L6, ha⟩
       have HT13 := hide (HT12.out.second ha)
       have HM13 := hide (HT12.out.d.keeps ha HM12.out (by decide))
       have HD13 := hide (HD12.out.turn HT12.out.d ha.ch)
       have HP13 : Hid (PlaysR w q E0 (k + 1) w13) := ⟨G, M, P, L3, R, C, en, A6, cap6, N6, ln6, cn6, H6, lh6, ch6, ⟨HT13.out.e, HT13.out.l1, HM13.out, HD13.out, HT13.out.bel⟩, by rw [← HEN.out]; exact feed_n HDR.out.1.ok HYB.out (by rw [HYL.out]; exact hnb) HLN.out⟩
       clear ha; go_wp2
       go_roundw
       case rel => exact ⟨k + 1, by have := HKM.out; omega, by have := HKM.out; go_num, HP13.out⟩
       case measure => have := HKM.out; simp [intOf]; omega
    ·have hd : decide (k < mm) = false := by simp [hkm]
     rw [hd]
     obtain ⟨G, M, P, L1, R, C, em, A5, cap5, N5, ln5, cn5, H5, lh5, ch5, hdr, -⟩ := HRR.out
     have HDR := hide hdr; clear hdr; go_wp2_with fail
     refine (eknown_any wr HDR.out.1.sp).mono ?_
     rintro e w9 ⟨rfl, hb9⟩
     have HE9 := hide (HDR.out.1.later hb9)
     have HM9 := hide (HDR.out.2.2.1.later hb9)
     have HD9 := hide (HDR.out.2.2.2.1.below hb9)
     have HB9 := hide (HDR.out.2.2.2.2.trans (hb9.mono HDR.out.2.2.2.2.size))
     clear hb9
     obtain ⟨t0, t1, t2, t3, t4, t5, t6, t7, t8, t9, tl⟩ := cells10 HM9.out
     go_wp2_with fail
     refine (ealike_any HE9.out HD9.out).mono ?_
     rintro x w10 ⟨rfl, hb⟩
     have HB10 := hide (HB9.out.trans (hb.mono HB9.out.size))
     clear t0 t1 t2 t3 t4 t5 t6 t7 t8 t9 tl; clear hb; go_wp2; go_ret
     exact ⟨rfl, HB10.out⟩
 ·have HSZ : Hid (sizeB sr sc = false) := by unfold Hid sizeB; simpa using hs
  go_enter Tryz.func3, Tryz.ntmps3
  go_wp2_with fail
  refine (esmall_any rows w).mono ?_
  rintro e w1 ⟨rfl, rfl⟩
  rw [HSR.out]
  go_wp2_with fail
  refine (esmall_any cols w).mono ?_
  rintro e w1 ⟨rfl, rfl⟩
  rw [HSC.out]
  go_wp2_with fail
  refine (enew_no sr sc hs w).mono ?_
  rintro e w1 ⟨rfl, rfl⟩
  go_wp2_with fail
  refine (rsize_any sr sc w).mono ?_
  rintro e w2 ⟨rfl, rfl⟩
  rw [HSZ.out]
  go_wp2_with fail
  refine (eknown_any w HS.out).mono ?_
  rintro e w1 ⟨rfl, hb⟩
  have HB1 := hide hb; clear hb; go_wp2; go_ret
  exact ⟨rfl, HB1.out⟩
end Go.Proofs.YtkijclgbpbhglaaGreatDoor
