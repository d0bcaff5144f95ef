/-
  The walk of the law DiffLeast.
-/
import Derived.Test.YtoddfaoifnkhlaaGreatDoorDWalkB
import Derived.Test.YtoddfaoifnkhlaaGreatDoorDWalkA
import Derived.Test.YtoddfaoifnkhlaaGreatDoorDMade
import Derived.Test.YtoddfaoifnkhlaaGreatDoorDKnown
import Derived.Test.YtoddfaoifnkhlaaGreatDoorDCheck
import Derived.Test.YtoddfaoifnkhlaaGreatDoorDROf
import Derived.Test.YtoddfaoifnkhlaaGreatDoorDApply
import Derived.BigQuiet
import Derived.Deep.DeepCutAuto
import Derived.Deep.CutRange
namespace Go.Proofs.YtoddfaoifnkhlaaGreatDoor
set_option maxRecDepth 100000
open Go.ChangeShapes Go.WideShapes Go.ChangeAt Go.RowKit
set_option linter.unusedVariables false

theorem sameG_move {f h : Gd} {R C : Nat} (hf : GOk f R C) (hh : GOk h R C) : sameG (moveG f (h.row : Int) (h.col : Int) C) h = decide (f.ls = h.ls) := by
  rw [Bool.eq_iff_iff, sameG_iff, decide_eq_true_iff]
  have e1 : nearN (h.row : Int) f.ls.length = h.row := by rw [hf.len]; exact nearN_self _ _ hh.row
  have e2 : nearN (h.col : Int) C = h.col := nearN_self _ _ hh.col
  unfold moveG
  rw [e1, e2]
  constructor
  · intro q; rw [← q]
  · intro q; rw [q]
theorem sp_first {x y : List Cel} {C r : Nat} {s : Sp} (h : SpOk x y C r s) (hy : y.length = C) : ∃ a u : Nat, s.row = (r : Int) ∧ s.col = (a : Int) ∧ s.cs.length = u ∧ 1 ≤ u ∧ a + u ≤ C ∧ cAt x a ≠ cAt s.cs 0 ∧ cAt x (a + u - 1) ≠ cAt s.cs (u - 1) := by
  obtain ⟨a, b, h1, h2, h3, h4, h5, h6, -⟩ := h.ex
  have hl : s.cs.length = b + 1 - a := by rw [h4, List.length_drop, List.length_take, hy, Nat.min_eq_left (by omega)]
  have hc : ∀ i, i < b + 1 - a → cAt s.cs i = cAt y (a + i) := fun i hi => by rw [h4, cAt_drop, cAt_take _ _ _ (by omega)]
  refine ⟨a, b + 1 - a, h.row, h1, hl, by omega, by omega, ?_, ?_⟩
  · rw [hc 0 (by omega), Nat.add_zero]; simpa [neAt] using h5
  · rw [hc _ (by omega), show a + (b + 1 - a) - 1 = b by omega, show a + (b + 1 - a - 1) = b by omega]; simpa [neAt] using h6
theorem arCL {a u C : Nat} (h : a + u ≤ C) (h2 : C ≤ 512) (h1 : 1 ≤ u) : IntKind.i64.wrap (IntKind.i64.wrap ((a : Int) + (u : Int)) - 1) = ((a + u - 1 : Nat) : Int) ∧ a + u - 1 < C ∧ a < C ∧ ((u : Int) == 0) = false ∧ IntKind.i64.wrap ((u : Int) - 1) = ((u - 1 : Nat) : Int) ∧ u - 1 < u ∧ IntKind.i64.wrap ((a : Int) + (u : Int)) = ((a + u : Nat) : Int) ∧ IntKind.i64.wrap (((a + u : Nat) : Int) - 1) = ((a + u - 1 : Nat) : Int) := by
  refine ⟨?_, by omega, by omega, by simp; omega, ?_, by omega, ?_, ?_⟩
  · rw [IntKind.wrap_i64, IntKind.wrap_i64]; omega
  · rw [IntKind.wrap_i64]; omega
  · rw [IntKind.wrap_i64]; omega
  · rw [IntKind.wrap_i64]; omega
theorem arJ {q u j : Nat} (h : 1 ≤ u) (e : q + u - 1 = j) : (q : Int) + (u : Int) - 1 = (j : Int) := by omega
theorem arMul {R C N : Nat} (r2 : R ≤ 512) (c2 : C ≤ 512) (h : N ≤ R * C) : IntKind.i64.wrap ((R : Int) * (C : Int)) = ((R * C : Nat) : Int) ∧ ¬ ((R * C : Nat) : Int) < (N : Int) := by
  have hm : R * C ≤ 512 * 512 := Nat.mul_le_mul r2 c2
  refine ⟨?_, by omega⟩
  rw [← Int.natCast_mul, IntKind.wrap_i64]
  omega
set_option maxHeartbeats 1000000 in
theorem diffLeast_walk (a0 a1 : Int) (A4 : Option Addr) (len4 cap4 : Nat) (A5 : Option Addr) (len5 cap5 : Nat) (w : World) (h0 : (Lit.int .i64 a0).wf = true) (h1 : (Lit.int .i64 a1).wf = true) (h4 : Acts w A4 len4) (h5 : Acts w A5 len5) (hS : Spans w) :
    Calls Tryz.prog 6 #[.int .i64 a0, .int .i64 a1, .slice A4 len4 cap4, .slice A5 len5 cap5] w fun e w' => e = .returned (.bool true) ∧ Below w.heap.size w w' := by
  have eC := eqlCell
  have HS := hide hS
  have H4 := hide h4
  have H5 := hide h5
  clear hS h0 h1 h4 h5
  go_enter Tryz.func6, Tryz.ntmps6
  go_wp2_with fail
  refine (dmade_any a0 a1 A4 len4 cap4 w H4.out HS.out).mono ?_
  rintro e k1 hm1
  rcases hm1 with ⟨g, R1, C1, G1, L1, M1, A1, cap1, rfl, ⟨hg, hb, n1, n2, n3⟩, hl, hok⟩ | ⟨rfl, hb⟩
  · obtain ⟨W1, hW1⟩ : ∃ W1, k1.alloc (.cells #[.slice A1 R1 cap1, .int .i64 (g.row : Int), .int .i64 (g.col : Int)] 26) = W1 := ⟨_, rfl⟩
    have hb1 : Below k1.heap.size k1 W1 := by rw [← hW1]; exact new1W _ _
    have HG1 := hide (hg.later hb1)
    have HOG := hide hok
    have HB1 := hide (hb.trans (hb1.mono hb.size))
    have HW1 := hide hW1
    clear hg hb n1 n2 n3 hl hok hW1 hb1
    go_wp2_with fail
    rw [HW1.out]
    refine (dmade_any a0 a1 A5 len5 cap5 W1 (H5.out.below HB1.out) (HS.out.below HB1.out)).mono ?_
    rintro e k2 hm2
    rcases hm2 with ⟨h, R2, C2, G2, L2, M2, A2, cap2, rfl, ⟨hg, hb, n1, n2, n3⟩, hl, hok⟩ | ⟨rfl, hb⟩
    · obtain ⟨W2, hW2⟩ : ∃ W2, k2.alloc (.cells #[.slice A2 R2 cap2, .int .i64 (h.row : Int), .int .i64 (h.col : Int)] 26) = W2 := ⟨_, rfl⟩
      have hb2 : Below k2.heap.size k2 W2 := by rw [← hW2]; exact new1W _ _
      have hb12 : Below W1.heap.size W1 W2 := hb.trans (hb2.mono hb.size)
      have HG2 := hide (hg.later hb2)
      have HOH := hide hok
      have HG1b := hide (HG1.out.later hb12)
      have HB2 := hide (HB1.out.trans (hb12.mono HB1.out.size))
      have HW2 := hide hW2
      have hc1 := HOG.out.c2
      have r1 := hok.r1
      have r2 := hok.r2
      have c1 := hok.c1
      have c2 := hok.c2
      have hfo := HOG.out.fit r1 r2 c1 c2
      have hea := ofD_each HOG.out hok
      have hle := ofD_len HOG.out hok
      have hcl := cells_le HOG.out hok
      have hnil := spans_nil hfo hok
      have hmem := fun s => spans_mem hfo hok (Nat.le_refl R2) (s := s)
      have hss : (ofD g h R2 C2).ss = spansTo (fitG g R2 C2).ls h.ls C2 R2 := rfl
      rw [← hss] at hnil hmem
      clear hg hb n1 n2 n3 hl hW2 hb2 hb12 hok hss
      obtain ⟨d, hd⟩ : ∃ d, ofD g h R2 C2 = d := ⟨_, rfl⟩
      rw [hd] at hea hle hcl hnil hmem
      obtain ⟨fg, hfg⟩ : ∃ fg, fitG g R2 C2 = fg := ⟨_, rfl⟩
      rw [hfg] at hfo hnil hmem
      have HDD := hide hd
      have HFG := hide hfg
      have HFO := hide hfo
      have HNIL := hide hnil
      have HMEM := hide hmem
      have HBD : Hid (∀ s ∈ d.ss, s.cs.length ≤ 1000000) := fun s hs => Nat.le_trans (hea s hs).2 (by decide)
      obtain ⟨n3, hn3⟩ : ∃ n3, d.ss.length = n3 := ⟨_, rfl⟩
      rw [hn3] at hle
      have HN3 := hide hn3
      have HN6 : Hid (n3 ≤ 1000000) := Nat.le_trans hle (by decide)
      have hn36 : n3 ≤ 512 := hle
      obtain ⟨N, hN⟩ : ∃ N, cellsD d = N := ⟨_, rfl⟩
      rw [hN] at hcl
      obtain ⟨hmul, hmul2⟩ := arMul r2 c2 hcl
      have HNN := hide hN
      clear hd hea hle hn3 hfg hfo hnil hmem hN hcl
      go_wp2_with fail
      rw [HW2.out]
      refine (dfof_any HG1b.out HOG.out HG2.out HOH.out).mono ?_
      rw [HDD.out]
      rintro e k3 ⟨A3, c3, rfl, hd3, hb3⟩
      rw [HN3.out]
      obtain ⟨P3, hP3⟩ : ∃ P3, k3.heap.size = P3 := ⟨_, rfl⟩
      obtain ⟨W3, hW3⟩ : ∃ W3, k3.alloc (.cells #[.int .i64 d.rows, .int .i64 d.cols, .int .i64 d.row, .int .i64 d.col, .slice A3 n3 c3] 33) = W3 := ⟨_, rfl⟩
      have hb4 : Below k3.heap.size k3 W3 := by rw [← hW3]; exact new1W _ _
      have hb23 : Below W2.heap.size W2 W3 := hb3.trans (hb4.mono hb3.size)
      have HP3 : Hid (Whole W3 P3 33 [.int .i64 d.rows, .int .i64 d.cols, .int .i64 d.row, .int .i64 d.col, .slice A3 n3 c3]) := by unfold Hid; rw [← hW3, ← hP3]; exact Whole.new k3 33 [.int .i64 d.rows, .int .i64 d.cols, .int .i64 d.row, .int .i64 d.col, .slice A3 n3 c3]
      have HD3 := hide (hd3.below hb4)
      have HGG := hide (HG1b.out.later hb23)
      have HHH := hide (HG2.out.later hb23)
      have HB3 := hide (HB2.out.trans (hb23.mono HB2.out.size))
      have HW3 := hide hW3
      have HP3q := hide hP3
      clear hd3 hb3 hP3 hW3 hb4 hb23
      go_wp2_with fail
      rw [HW3.out, HP3q.out]
      refine (rows_any HHH.out).mono ?_
      rintro e v1 ⟨rfl, rfl⟩
      go_wp2_with fail
      refine (cols_any HHH.out r1).mono ?_
      rintro e v1 ⟨rfl, rfl⟩
      go_wp2_with fail
      refine (fit_yes HGG.out hc1 R2 C2 r1 r2 c1 c2).mono ?_
      rw [HFG.out]
      rintro e W4 ⟨G4, L4, M4, rfl, hg4, hb4, n1, n2, n3'⟩
      have HF4 := hide hg4
      have HD4 := hide (HD3.out.below hb4)
      have HP4 := hide (HP3.out.later hb4)
      have HH4 := hide (HHH.out.later hb4)
      have HB4 := hide (HB3.out.trans (hb4.mono HB3.out.size))
      have HNE4 := hide (aside_new HHH.out n1 n2 n3')
      have hw4 : P3 ≠ G4 := Nat.ne_of_lt (Nat.lt_of_lt_of_le HP3.out.lt n1)
      have hwG : w.heap.size ≤ G4 := Nat.le_trans HB3.out.size n1
      have HPG := hide hw4
      have HWG := hide hwG
      clear hg4 hb4 n1 n2 n3' hw4 hwG
      obtain ⟨f0, f1, f2, f3, f4, lf⟩ := cells5 HP4.out
      go_wp2_with fail
      refine (dfcells_any W2.heap.size 47 65 d A3 n3 c3 W4 HD4.out.sps HD4.out.cle HN3.out HN6.out HBD.out).mono ?_
      rw [HNN.out]
      rintro e W5 ⟨rfl, hb5⟩
      have HF5 := hide (HF4.out.later hb5)
      have HD5 := hide (HD4.out.below hb5)
      have HP5 := hide (HP4.out.later hb5)
      have HH5 := hide (HH4.out.later hb5)
      have HB5 := hide (HB4.out.trans (hb5.mono HB4.out.size))
      clear hb5 f0 f1 f2 f3 f4 lf
      go_wp2_with fail
      refine (rows_any HH5.out).mono ?_
      rintro e v1 ⟨rfl, rfl⟩
      go_wp2_with fail
      refine (cols_any HH5.out r1).mono ?_
      rintro e v1 ⟨rfl, rfl⟩
      go_wp2
      clear hmul hmul2
      go_loopw [16] (fun i wr => ∃ k : Nat, k ≤ n3 ∧ i = .int .i64 k ∧ Hid (Below W5.heap.size W5 wr)) (fun i _ => n3 - (intOf i).toNat)
      case atStart => exact ⟨0, Nat.zero_le _, rfl, Below.refl _ _⟩
      case round =>
        obtain ⟨k, hk, rfl, HB⟩ := hrel
        have HFr := hide (HF5.out.later HB.out)
        have HPr := hide (HP5.out.later HB.out)
        have HDr := hide (HD5.out.below HB.out)
        obtain ⟨f0, f1, f2, f3, f4, lf⟩ := cells5 HPr.out
        by_cases hlt : k < n3
        · have hkl : k < d.ss.length := by rw [HN3.out]; exact hlt
          obtain ⟨b, off, A9, c9, rfl, lb, x0, x1, x2, xi, -⟩ := HDr.out.sps.at (i := k) hkl
          obtain ⟨r, hrR, hsp⟩ := HMEM.out _ (mem_sAt d.ss k hkl)
          obtain ⟨q0, u, e1, e2, e3, hu1, hu2, hx, hy⟩ := sp_first hsp (HOH.out.each r hrR).1
          have hci := xi.cels
          obtain ⟨x, hx9⟩ : ∃ x, sAt d.ss k = x := ⟨_, rfl⟩
          rw [hx9] at x0 x1 x2 hci e1 e2 e3 hx hy
          obtain ⟨sr, sc, cs⟩ := x
          simp only at x0 x1 x2 hci e1 e2 e3 hx hy
          subst e1 e2
          rw [e3] at x2
          obtain ⟨hw0, hq1, hq2, hz, hw2, hw3, hw4, hw5⟩ := arCL hu2 c2 hu1
          obtain ⟨jj, hjj⟩ : ∃ j, q0 + u - 1 = j := ⟨_, rfl⟩
          obtain ⟨vv, hvv⟩ : ∃ v, u - 1 = v := ⟨_, rfl⟩
          rw [hjj] at hw0 hw5 hq1 hy
          rw [hvv] at hw2 hw3 hy
          have HJZ : Hid ((q0 : Int) + (u : Int) - 1 = (jj : Int)) := arJ hu1 hjj
          clear hjj hvv
          obtain ⟨b1, o1, rfl, lb1, -⟩ := hci.at (i := 0) (by rw [e3]; exact hu1)
          have HE3 := hide e3
          have HCI := hide hci
          have HHX := hide hx
          have HHY := hide hy
          have HRR := hide hrR
          have HQ1 := hide hq1
          have HQ2 := hide hq2
          have HW3u := hide hw3
          obtain ⟨P6, hP6⟩ : ∃ P6, wr.heap.size = P6 := ⟨_, rfl⟩
          obtain ⟨W6, hW6⟩ : ∃ W6, wr.alloc (.cells #[.int .i64 (r : Int), .int .i64 (q0 : Int), .slice (some ⟨b1, o1, none⟩) u c9] 47) = W6 := ⟨_, rfl⟩
          have hb6 : Below wr.heap.size wr W6 := by rw [← hW6]; exact new1W _ _
          have HZ6 : Hid (Whole W6 P6 47 [.int .i64 (r : Int), .int .i64 (q0 : Int), .slice (some ⟨b1, o1, none⟩) u c9]) := by unfold Hid; rw [← hW6, ← hP6]; exact Whole.new wr 47 [.int .i64 (r : Int), .int .i64 (q0 : Int), .slice (some ⟨b1, o1, none⟩) u c9]
          have HF6 := hide (HFr.out.later hb6)
          have HC6 := hide (HCI.out.below hb6)
          have HB6 := hide (HB.out.trans (hb6.mono HB.out.size))
          have HW6 := hide hW6
          have HP6 := hide hP6
          clear hx hy hci hrR hq1 hq2 hw3 e3 hx9 hsp xi hW6 hP6 hb6 lb1
          obtain ⟨z0, z1, z2, lz⟩ := cells3 HZ6.out
          obtain ⟨⟨xr, xm, xn, xd, ⟨xf, xg, xb⟩⟩, hxc⟩ : ∃ q, cAt (lAt fg.ls r) q0 = q := ⟨_, rfl⟩
          obtain ⟨⟨yr, ym, yn, yd, ⟨yf, yg, yb⟩⟩, hyc⟩ : ∃ q, cAt (lAt fg.ls r) jj = q := ⟨_, rfl⟩
          have HXC := hide hxc
          have HYC := hide hyc
          clear hxc hyc
          go_wp2_with fail
          rw [HW6.out, HP6.out]
          refine (gat_yes HF6.out r q0 HRR.out HQ2.out c2 xr xm xn xd xf xg xb HXC.out).mono ?_
          rintro e k7 ⟨rfl, hb7⟩
          obtain ⟨P7, hP7⟩ : ∃ P7, k7.heap.size = P7 := ⟨_, rfl⟩
          obtain ⟨W7, hW7⟩ : ∃ W7, k7.alloc (.cells #[.int .i32 xr, .int .i32 xm, .int .i32 xn, .int .u8 (xd : Int), .int .u8 (xf : Int), .int .u8 (xg : Int), .int .u8 (xb : Int)] 65) = W7 := ⟨_, rfl⟩
          have hb67 : Below W6.heap.size W6 W7 := by rw [← hW7]; exact hb7.alloc hb7.size _
          have HX7 : Hid (Whole W7 P7 65 [.int .i32 xr, .int .i32 xm, .int .i32 xn, .int .u8 (xd : Int), .int .u8 (xf : Int), .int .u8 (xg : Int), .int .u8 (xb : Int)]) := by unfold Hid; rw [← hW7, ← hP7]; exact Whole.new k7 65 [.int .i32 xr, .int .i32 xm, .int .i32 xn, .int .u8 (xd : Int), .int .u8 (xf : Int), .int .u8 (xg : Int), .int .u8 (xb : Int)]
          have HZ7k := hide (HZ6.out.later hb7)
          have HZ7 := hide (HZ6.out.later hb67)
          have HF7 := hide (HF6.out.later hb67)
          have HC7 := hide (HC6.out.below hb67)
          have HB7 := hide (HB6.out.trans (hb67.mono HB6.out.size))
          have HW7 := hide hW7
          have HP7 := hide hP7
          clear hb7 hP7 hW7 hb67 z0 z1 z2 lz
          obtain ⟨z0, z1, z2, lz⟩ := cells3 HZ7k.out
          go_wp2_with fail
          rw [HW7.out, HP7.out]
          rw [HJZ.out]
          refine (gat_yes HF7.out r jj HRR.out HQ1.out c2 yr ym yn yd yf yg yb HYC.out).mono ?_
          rintro e k8 ⟨rfl, hb8⟩
          obtain ⟨P8, hP8⟩ : ∃ P8, k8.heap.size = P8 := ⟨_, rfl⟩
          obtain ⟨W8, hW8⟩ : ∃ W8, k8.alloc (.cells #[.int .i32 yr, .int .i32 ym, .int .i32 yn, .int .u8 (yd : Int), .int .u8 (yf : Int), .int .u8 (yg : Int), .int .u8 (yb : Int)] 65) = W8 := ⟨_, rfl⟩
          have hb78 : Below W7.heap.size W7 W8 := by rw [← hW8]; exact hb8.alloc hb8.size _
          have HY8 : Hid (Whole W8 P8 65 [.int .i32 yr, .int .i32 ym, .int .i32 yn, .int .u8 (yd : Int), .int .u8 (yf : Int), .int .u8 (yg : Int), .int .u8 (yb : Int)]) := by unfold Hid; rw [← hW8, ← hP8]; exact Whole.new k8 65 [.int .i32 yr, .int .i32 ym, .int .i32 yn, .int .u8 (yd : Int), .int .u8 (yf : Int), .int .u8 (yg : Int), .int .u8 (yb : Int)]
          have HX8 := hide (HX7.out.later hb78)
          have HZ8 := hide (HZ7.out.later hb78)
          have HC8 := hide (HC7.out.below hb78)
          have HB8 := hide (HB7.out.trans (hb78.mono HB7.out.size))
          have HW8 := hide hW8
          have HP8 := hide hP8
          clear hb8 hP8 hW8 hb78 z0 z1 z2 lz f0 f1 f2 f3 f4 lf
          obtain ⟨z0, z1, z2, lz⟩ := cells3 HZ8.out
          obtain ⟨s0, s1, s2, s3, s4, s5, s6, ls⟩ := cells7 HX8.out
          obtain ⟨t0, t1, t2, t3, t4, t5, t6, lt⟩ := cells7 HY8.out
          obtain ⟨⟨pr, pm, pn, pd, ⟨pf, pg, pb⟩⟩, hpc⟩ : ∃ q, cAt cs 0 = q := ⟨_, rfl⟩
          obtain ⟨⟨qr, qm, qn, qd, ⟨qf, qg, qb⟩⟩, hqc⟩ : ∃ q, cAt cs vv = q := ⟨_, rfl⟩
          obtain ⟨u0, u1, u2, u3, u4, u5, u6, lu⟩ := HC8.out.sevenC 0 (by rw [HE3.out]; exact hu1) hpc
          obtain ⟨v0, v1, v2, v3, v4, v5, v6, lv⟩ := HC8.out.sevenC vv (by rw [HE3.out]; exact HW3u.out) hqc
          have hqx : eqC xr xm xn (xd : Int) (xf : Int) (xg : Int) (xb : Int) pr pm pn (pd : Int) (pf : Int) (pg : Int) (pb : Int) = false := by
            rw [eqC_cel]; have := HHX.out; rw [HXC.out, hpc] at this; exact decide_eq_false this
          have hqy : eqC yr ym yn (yd : Int) (yf : Int) (yg : Int) (yb : Int) qr qm qn (qd : Int) (qf : Int) (qg : Int) (qb : Int) = false := by
            rw [eqC_cel]; have := HHY.out; rw [HYC.out, hqc] at this; exact decide_eq_false this
          simp only [Nat.zero_mul, Nat.add_zero] at u0 u1 u2 u3 u4 u5 u6
          have huI : (0 : Int) < (u : Int) := Int.ofNat_lt.2 hu1
          have hwI : ((vv : Nat) : Int) < (u : Int) := Int.ofNat_lt.2 HW3u.out
          clear hpc hqc
          go_upto_region 17 with fail
          rw [HW8.out, HP8.out]
          go_quiet (fail)
          go_wp2
          go_roundw
          case rel => exact ⟨k + 1, hlt, by go_num, HB8.out.drewN _⟩
          case measure => simp [intOf]; exact arM hlt
        · have hkn := arD hk hlt
          subst hkn
          have HHr := hide (HH5.out.later HB.out)
          have HBr := hide (HB5.out.trans (HB.out.mono HB5.out.size))
          go_wp2_with fail
          refine (row_any HHr.out).mono ?_
          rintro e v1 ⟨rfl, rfl⟩
          go_wp2_with fail
          refine (col_any HHr.out).mono ?_
          rintro e v1 ⟨rfl, rfl⟩
          go_wp2_with fail
          refine (move_any HFr.out r1 r2 c1 c2 (h.row : Int) (h.col : Int)).mono ?_
          rintro e W9 ⟨rfl, hg9, ho9⟩
          have HF9 := hide hg9
          have HH9 := hide (HHr.out.aside HFr.out (Trn.of_onlyG ho9) ⟨Ne.symm HNE4.out.1, Ne.symm HNE4.out.2.1, Ne.symm HNE4.out.2.2⟩)
          have HP9 := hide (HPr.out.far ho9 HPG.out)
          have HB9 := hide (ho9.below HBr.out HBr.out.size HWG.out)
          clear hg9 ho9 f0 f1 f2 f3 f4 lf
          have hsm := sameG_move HFO.out HOH.out
          have hsb : (((k : Int)) == 0) = decide (fg.ls = h.ls) := by
            rw [Bool.eq_iff_iff, decide_eq_true_iff, ← HNIL.out]
            rw [beq_iff_eq]
            constructor
            · intro q; exact List.eq_nil_of_length_eq_zero (by rw [HN3.out]; omega)
            · intro q; rw [← HN3.out, q]; rfl
          obtain ⟨bo, hbo⟩ : ∃ bo, decide (fg.ls = h.ls) = bo := ⟨_, rfl⟩
          rw [hbo] at hsm hsb
          have HSM := hide hsm
          have HSB := hide hsb
          clear hsm hsb hbo
          go_upto_region 20 with fail
          refine rgH (fun w' => Below W9.heap.size W9 w') [(false, 0), (false, 1), (true, 6), (true, 7), (true, 2), (true, 3), (true, 4), (true, 5), (false, 8), (false, 9), (false, 10), (false, 11)] ((Below.refl _ _).drewN 1) ?_
          refine alH fun K hK => ?_
          go_wp2_with fail
          refine (dknown_any W9.drew (HS.out.below (HB9.out.drewN 1))).mono ?_
          rintro e v1 ⟨rfl, hb1⟩
          have B1 : Below W9.heap.size W9 v1 := ((Below.refl W9.heap.size W9).drewN 1).trans hb1
          clear hb1
          go_wp2
          refine hK.out _ _ B1 ?_
          clear hK K
          refine alH fun K hK => ?_
          go_wp2
          refine hK.out _ _ B1 ?_
          clear hK K
          iterate 3 refine stH (h := ?_)
          refine stH (hy := fun w hS => by obtain ⟨f0, f1, f2, f3, f4, -⟩ := cells5 (HP9.out.later hS); go_simp <;> with_reducible rfl) (h := ?_)
          refine stH (h := ?_)
          refine stH (v := .bool bo) (hy := fun w hS => by have hsb := HSB.out; go_simp) (h := ?_)
          refine alH fun K hK => ?_
          go_wp2_with fail
          refine (gsame_any (HF9.out.later B1) (HH9.out.later B1) r2 r2 c2).mono ?_
          rw [HSM.out]
          rintro e v2 ⟨rfl, hb2⟩
          have B2 : Below W9.heap.size W9 v2 := B1.trans (hb2.mono B1.size)
          clear hb2
          go_wp2
          refine hK.out _ _ B2 ?_
          clear hK K
          iterate 3
            refine alH fun K hK => ?_
            go_wp2
            refine hK.out _ _ B2 ?_
            clear hK K
          refine chainH_nil ?_
          have HBF := hide (HB9.out.trans (B2.mono HB9.out.size))
          clear B1 B2
          go_wp2
          go_ret
          exact ⟨rfl, HBF.out⟩
    · obtain ⟨W2, hW2⟩ : ∃ W2, k2.alloc (.cells #[.slice none 0 0, .int .i64 0, .int .i64 0] 26) = W2 := ⟨_, rfl⟩
      have HB3 : Hid (Below w.heap.size w W2) := by unfold Hid; rw [← hW2]; exact (HB1.out.trans (hb.mono HB1.out.size)).alloc (Nat.le_trans HB1.out.size hb.size) _
      have HW2 := hide hW2
      clear hb hW2
      go_wp2_with fail
      rw [HW2.out]
      refine (dknown_any W2 (HS.out.below HB3.out)).mono ?_
      rintro e v1 ⟨rfl, hb1⟩
      have HV1 := hide (HB3.out.trans (hb1.mono HB3.out.size))
      clear hb1
      go_wp2
      go_ret
      exact ⟨rfl, HV1.out⟩
  · obtain ⟨W1, hW1⟩ : ∃ W1, k1.alloc (.cells #[.slice none 0 0, .int .i64 0, .int .i64 0] 26) = W1 := ⟨_, rfl⟩
    have HB1 : Hid (Below w.heap.size w W1) := by unfold Hid; rw [← hW1]; exact hb.alloc hb.size _
    have HW1 := hide hW1
    clear hb hW1
    go_wp2_with fail
    rw [HW1.out]
    refine (dmade_any a0 a1 A5 len5 cap5 W1 (H5.out.below HB1.out) (HS.out.below HB1.out)).mono ?_
    rintro e k2 hm2
    rcases hm2 with ⟨h, R2, C2, G2, L2, M2, A2, cap2, rfl, ⟨-, hb, -⟩, -⟩ | ⟨rfl, hb⟩
    all_goals
      have HB2 := hide (HB1.out.trans (hb.mono HB1.out.size))
      clear hb
      go_wp2_with fail
      refine (dknown_any _ (HS.out.below (HB2.out.alloc HB2.out.size _))).mono ?_
      rintro e v1 ⟨rfl, hb1⟩
      have HV1 := hide ((HB2.out.alloc HB2.out.size _).trans (hb1.mono (HB2.out.alloc HB2.out.size _).size))
      clear hb1
      go_wp2
      go_ret
      exact ⟨rfl, HV1.out⟩
end Go.Proofs.YtoddfaoifnkhlaaGreatDoor
