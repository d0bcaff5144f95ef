/-
  Contracts: what is wrong with a difference that is to be told (the document's Check).
-/
import Derived.Test.YthogcfjlipaekaaDoorDeBytes
import Derived.Test.YthogcfjlipaekaaDoorB17
import Derived.Test.YthogcfjlipaekaaDoorB7
namespace Go.Proofs.YthogcfjlipaekaaDoor
set_option maxRecDepth 100000
open Go.ChangeShapes Go.WideShapes Go.ChangeAt Go.RowKit
set_option linter.unusedVariables false

set_option maxHeartbeats 2000000 in
theorem rdecheck_any (C : Nat) (te t : TypeId) (d : Df) (A : Option Addr) (n c : Nat) (w : World) (h : Sps C te t .i64 w A d.ss) (hC : C ≤ w.heap.size) (hn : d.ss.length = n) (hl : n ≤ 1000000) (hlb : ∀ s ∈ d.ss, LB s.cs) (hbd : ∀ s ∈ d.ss, s.cs.length ≤ 1000000) :
    Calls Tryd.prog 7 #[.agg #[.int .i64 d.rows, .int .i64 d.cols, .int .i64 d.row, .int .i64 d.col, .slice A n c]] w (Num .i64 (checkDe d) w) := by
  have hcd : checkDe d = if checkD d = 0 then errTo (fun i => checkR (sAt d.ss i).cs) n else checkD d := by unfold checkDe; rw [hn]
  obtain ⟨Y, hY⟩ : ∃ Y, checkDe d = Y := ⟨_, rfl⟩
  rw [hY] at hcd ⊢
  have CHK := rdcheck_any C te t d A n c
  obtain ⟨E, hE⟩ : ∃ E, checkD d = E := ⟨_, rfl⟩
  rw [hE] at hcd CHK
  clear hY hE
  obtain ⟨R, K, r0, l0, ss⟩ := d
  simp only at h hn hlb hbd hcd CHK ⊢
  obtain ⟨W0, hW0⟩ : ∃ W0, w.alloc (.cells #[.int .i64 R, .int .i64 K, .int .i64 r0, .int .i64 l0, .slice A n c] 29) = W0 := ⟨_, rfl⟩
  have HB0 : Hid (Below w.heap.size w W0) := by unfold Hid; rw [← hW0]; exact new1W _ _
  have HX0 : Hid (Whole W0 w.heap.size 29 [.int .i64 R, .int .i64 K, .int .i64 r0, .int .i64 l0, .slice A n c]) := by unfold Hid; rw [← hW0]; exact Whole.new w 29 [.int .i64 R, .int .i64 K, .int .i64 r0, .int .i64 l0, .slice A n c]
  have KEY := hide (CHK W0 (h.below HB0.out hC) (Nat.le_trans hC HB0.out.size) hn hl)
  have HW0 := hide hW0
  have HA := hide h
  have HC := hide hC
  have HN := hide hn
  have HLB := hide hlb
  have HBD := hide hbd
  have HCD := hide hcd
  clear hW0 h hC hn hlb hbd hcd CHK
  obtain ⟨d0, d1, d2, d3, d4, ld⟩ := cells5 HX0.out
  go_enter Tryd.func7, Tryd.ntmps7
  go_wp2_with fail
  rw [HW0.out]
  refine KEY.out.mono ?_
  rintro e w1 ⟨rfl, hb1⟩
  have HX1 := hide (HX0.out.later hb1)
  have HB1 := hide (HB0.out.trans (hb1.mono HB0.out.size))
  clear hb1 d0 d1 d2 d3 d4 ld
  go_wp2
  go_loopw [3, 4] (fun v i wr => ∃ (k : Nat) (x : Int), k ≤ n ∧ i = .int .i64 k ∧ v = .int .i64 x ∧ Hid (x = if E = 0 then errTo (fun i => checkR (sAt ss i).cs) k else E) ∧ Hid (Below w1.heap.size w1 wr)) (fun _ i _ => n - (intOf i).toNat)
  case atStart => exact ⟨0, E, Nat.zero_le _, rfl, rfl, by unfold Hid; by_cases q : E = 0; rw [if_pos q, q]; rfl; rw [if_neg q], Below.refl _ _⟩
  case round =>
    obtain ⟨k, x, hk, rfl, rfl, HX, HBk⟩ := hrel
    have HXk := hide (HX1.out.later HBk.out)
    obtain ⟨d0, d1, d2, d3, d4, ld⟩ := cells5 HXk.out
    by_cases hlt : k < n
    · by_cases hx : x = 0
      · have e0 : (x == 0) = true := by simpa using hx
        have hE : E = 0 := by
          have := HX.out
          by_cases q : E = 0
          · exact q
          · rw [if_neg q] at this; omega
        have her : errTo (fun i => checkR (sAt ss i).cs) k = 0 := by have := HX.out; rw [if_pos hE] at this; omega
        have hks : k < ss.length := by rw [HN.out]; exact hlt
        have hbw := HB1.out.trans (HBk.out.mono HB1.out.size)
        obtain ⟨b, off, A1, c1', rfl, lb, x0, x1, x2, xi, -⟩ := (HA.out.below hbw HC.out).at (i := k) hks
        have hlk : LB (sAt ss k).cs := HLB.out _ (mem_sAt ss k hks)
        have hlu : (sAt ss k).cs.length ≤ 1000000 := HBD.out _ (mem_sAt ss k hks)
        have HNX : Hid (checkR (sAt ss k).cs = if E = 0 then errTo (fun i => checkR (sAt ss i).cs) (k + 1) else E) := by
          unfold Hid
          rw [if_pos hE]
          show _ = (if errTo (fun i => checkR (sAt ss i).cs) k = 0 then checkR (sAt ss k).cs else errTo (fun i => checkR (sAt ss i).cs) k)
          rw [if_pos her]
        obtain ⟨s, hs⟩ : ∃ s, sAt ss k = s := ⟨_, rfl⟩
        rw [hs] at x0 x1 x2 xi hlk hlu HNX
        obtain ⟨r, l, cs⟩ := s
        simp only at x0 x1 x2 xi hlk hlu HNX
        obtain ⟨u, hu⟩ : ∃ u, cs.length = u := ⟨_, rfl⟩
        rw [hu] at x2 hlu
        have KEY2 := hide (rrcheck_any A1 u c1' cs wr xi.cels hu hlu (fun i hi => (hlk i (by omega)).2.2.2))
        clear hx hE her hks hbw xi hlk hs hu
        go_wp2_with fail
        refine KEY2.out.mono ?_
        rintro e w2 ⟨rfl, hb2⟩
        obtain ⟨y, hy⟩ : ∃ y, checkR cs = y := ⟨_, rfl⟩
        rw [hy] at HNX ⊢
        have HB2 := hide (HBk.out.trans (hb2.mono HBk.out.size))
        clear hb2 hy x0 x1 x2 lb d0 d1 d2 d3 d4 ld
        go_wp2
        go_roundw
        case rel => exact ⟨k + 1, y, by omega, by go_num, rfl, HNX, HB2⟩
        case measure => simp [intOf]; omega
      · have e0 : (x == 0) = false := by simpa using hx
        have HF : Hid (x = Y) := by
          unfold Hid
          have h1 := HX.out
          rw [HCD.out]
          by_cases q : E = 0
          · rw [if_pos q] at h1 ⊢
            rw [h1]
            exact (errTo_stays _ k n (by omega) (by rw [← h1]; exact hx)).symm
          · rw [if_neg q] at h1 ⊢; exact h1
        clear hx
        go_wp2
        go_ret
        exact ⟨by rw [← HF.out]; rfl, HB1.out.trans (HBk.out.mono HB1.out.size)⟩
    · obtain rfl : k = n := by omega
      have HF : Hid (x = Y) := by unfold Hid; rw [HCD.out]; exact HX.out
      go_wp2
      go_ret
      exact ⟨by rw [← HF.out]; rfl, HB1.out.trans (HBk.out.mono HB1.out.size)⟩
end Go.Proofs.YthogcfjlipaekaaDoor
