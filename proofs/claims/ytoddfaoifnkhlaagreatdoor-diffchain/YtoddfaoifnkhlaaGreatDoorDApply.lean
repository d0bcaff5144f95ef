/-
  Contracts: what a difference makes of a grid (the program's).
-/
import Derived.Test.YtoddfaoifnkhlaaGreatDoorDCheck
import Derived.Test.YtoddfaoifnkhlaaGreatDoorDROf
import Derived.Test.YtoddfaoifnkhlaaGreatDoorB12
import Derived.Test.YtoddfaoifnkhlaaGreatDoorB10
import Derived.Test.YtoddfaoifnkhlaaGreatDoorB14
import Derived.BigQuiet
import Derived.Deep.DeepCutAuto
import Derived.Deep.CutRange
namespace Go.Proofs.YtoddfaoifnkhlaaGreatDoor
set_option maxRecDepth 100000
open Go.ChangeShapes Go.WideShapes Go.ChangeAt Go.RowKit
set_option linter.unusedVariables false

theorem over_lay (l : List Cel) (a : Nat) (cs : List Cel) (h : a + cs.length ≤ l.length) : layC l a cs = overL l a cs := lay_tab l a cs h
theorem addr_add (b off j : Nat) : (⟨b, off, none⟩ : Addr).add j = ⟨b, off + j, none⟩ := by unfold Addr.add; split <;> simp_all
theorem take_mid {α : Type} (cur xs : List α) (p N : Nat) (h : p + xs.length ≤ N) (hN : N ≤ cur.length) : (cur.take p ++ xs ++ cur.drop (p + xs.length)).take N = (cur.take N).take p ++ (xs ++ (cur.take N).drop (p + xs.length)) := by
  have hl : (cur.take p).length = p := by rw [List.length_take]; omega
  rw [List.append_assoc, List.take_append, hl, List.take_append, List.take_take, List.take_take, Nat.min_eq_right (by omega), Nat.min_eq_left (by omega), List.take_of_length_le (by omega : xs.length ≤ N - p), List.drop_take]
  congr 3
  omega
/-- 'copy(row[p:], src)', the row the call's own: the run. -/
theorem run_copyO {P : Program} {S e : TypeId} {k : IntKind} {bytes : Nat} (E : ElemC P S e k bytes) {B : Nat} {w0 w : World} (ty : TypeId) (g p : Nat) (ds xs : List Cel) (A : Option Addr) (n cp dLen dCap sLen sCap : Nat)
    (hw : OwnC e k B w0 w (.slice (some ⟨g, 0, none⟩) n cp) ds) (hA : Cels k w A xs) (hx : xs.length = sLen) (hs : sLen ≤ dLen) (hfit : p + dLen = n) :
    ∃ w', (Builtin.copy_ #[S, S] ty #[.slice (some ⟨g, p * 7, none⟩) dLen dCap, .slice A sLen sCap]).run P w = .ok (goInt (Nat.min sLen dLen)) w' ∧ OwnC e k B w' w' (.slice (some ⟨g, 0, none⟩) n cp) (overL ds p xs) ∧ Only g w w' := by
  subst hx
  have hmin : Nat.min xs.length dLen = xs.length := Nat.min_eq_left hs
  rw [hmin]
  have hown := hw.own
  rcases hown.2 with ⟨e0, _⟩ | ⟨g', cap, cur, e1, hB, hh, hc, hm, hsz, htake⟩
  · cases e0
  · simp only [Value.slice.injEq, Option.some.injEq, Addr.mk.injEq, and_true] at e1
    obtain ⟨rfl, hnn, rfl⟩ := e1
    have hn : ds.length = n := hnn.symm
    rcases hA with rfl | ⟨b, off, rfl, hcell⟩
    · refine ⟨w, by simpa using run_copy7_none E w S ty (some ⟨g, p * 7, none⟩) A dLen dCap 0 sCap (by simp), ?_, Only.refl⟩
      rw [over_0]
      exact ⟨hw.own, Below.refl _ _, hw.le⟩
    · have hadd : ∀ j, (⟨b, off, none⟩ : Addr).add j = ⟨b, off + j, none⟩ := addr_add b off
      have hlen : (flatC k xs).length = Nat.min xs.length dLen * 7 := by rw [flatC_len, hmin]
      have hfit2 : p * 7 + (flatC k xs).length ≤ cur.size := by
        rw [flatC_len, hsz, ← Nat.add_mul]
        exact Nat.mul_le_mul_right _ (by omega)
      have hrun := run_copy7 E w S ty g (p * 7) dLen dCap ⟨b, off, none⟩ xs.length sCap cur e (flatC k xs) hh hlen (fun j v hj => by rw [hadd]; exact hcell j v hj) hfit2 (flatC_one k _)
      rw [hmin] at hrun
      have hset := setRow_heap w g cur (cur.toList.take (p * 7) ++ flatC k xs ++ cur.toList.drop (p * 7 + (flatC k xs).length)).toArray e (0, 0) hh
      refine ⟨_, hrun, ⟨?_, Below.refl _ _, by simpa [World.setRow] using hw.le⟩, ⟨rfl, rfl, rfl, by simp [World.setRow], fun i _ hne => setRow_other w g i _ (by intro q; exact hne (by simp [q]))⟩⟩
      have hol : (overL ds p xs).length = n := by rw [over_len, hn]
      rw [hol]
      have hds : p + xs.length ≤ ds.length := by omega
      refine ⟨by rw [flatC_len, hol], .inr ⟨g, cp, _, rfl, hB, hset, by omega, hm, ?_, ?_⟩⟩
      · simp only [List.size_toArray, List.length_append, List.length_take, List.length_drop, Array.length_toList]
        omega
      · rw [← over_lay ds p xs hds, flat_lay, List.toList_toArray]
        have ht : flatC k ds = cur.toList.take (n * 7) := by rw [← htake, hn]
        rw [ht]
        exact take_mid cur.toList (flatC k xs) (p * 7) (n * 7) (by rw [flatC_len]; omega) (by rw [Array.length_toList, hsz]; omega)

theorem dfapply_nil (d : Df) (A : Option Addr) (n c : Nat) (w : World) : Calls Tryz.prog 15 #[.agg #[.int .i64 d.rows, .int .i64 d.cols, .int .i64 d.row, .int .i64 d.col, .slice A n c], .pointer none] w fun e w' => e = .returned (.tuple #[.pointer none, .int .i64 1]) ∧ Below w.heap.size w w' := by
  have HB : Hid (Below w.heap.size w (w.alloc (.cells #[.int .i64 d.rows, .int .i64 d.cols, .int .i64 d.row, .int .i64 d.col, .slice A n c] 33))) := new1W _ _
  go_enter Tryz.func15, Tryz.ntmps15
  go_wp2
  go_ret2
  exact ⟨rfl, HB.out⟩
set_option maxHeartbeats 1000000 in
theorem dfapply_bad (C0 : Nat) (te t : TypeId) (d : Df) (A : Option Addr) (n c G : Nat) (w : World) (h : Sps C0 te t .i32 w A d.ss) (hC : C0 ≤ w.heap.size) (hn : d.ss.length = n) (hl : n ≤ 1000000) (hE : checkD d ≠ 0) :
    Calls Tryz.prog 15 #[.agg #[.int .i64 d.rows, .int .i64 d.cols, .int .i64 d.row, .int .i64 d.col, .slice A n c], .pointer (some ⟨G, 0, none⟩)] w fun e w' => e = .returned (.tuple #[.pointer none, .int .i64 (checkD d)]) ∧ Below w.heap.size w w' := by
  obtain ⟨E, hE1⟩ : ∃ E, checkD d = E := ⟨_, rfl⟩
  rw [hE1] at hE ⊢
  obtain ⟨W0, hW0⟩ : ∃ W0, w.alloc (.cells #[.int .i64 d.rows, .int .i64 d.cols, .int .i64 d.row, .int .i64 d.col, .slice A n c] 33) = W0 := ⟨_, rfl⟩
  have HB0 : Hid (Below w.heap.size w W0) := by unfold Hid; rw [← hW0]; exact new1W _ _
  have HX0 : Hid (Whole W0 w.heap.size 33 [.int .i64 d.rows, .int .i64 d.cols, .int .i64 d.row, .int .i64 d.col, .slice A n c]) := by unfold Hid; rw [← hW0]; exact Whole.new w 33 [.int .i64 d.rows, .int .i64 d.cols, .int .i64 d.row, .int .i64 d.col, .slice A n c]
  have HA := hide (h.below HB0.out hC)
  have HC : Hid (C0 ≤ W0.heap.size) := Nat.le_trans hC HB0.out.size
  have HN := hide hn
  have HE1 := hide hE1
  have hne : (E != 0) = true := by simpa using hE
  have HW0 := hide hW0
  clear hW0 h hn hE1 hE hC
  go_enter Tryz.func15, Tryz.ntmps15
  go_wp2_with fail
  rw [HW0.out]
  refine (dfcheck_any C0 te t d A n c W0 HA.out HC.out HN.out hl).mono ?_
  rw [HE1.out]
  rintro e k1 ⟨rfl, hb⟩
  have HB1 := hide (HB0.out.trans (hb.mono HB0.out.size))
  clear hb
  go_wp2
  go_ret2
  exact ⟨rfl, HB1.out⟩
/-- What Apply gives of a difference that is right. -/
def Applied (R C : Nat) (ok : Bool) (g : Gd) (w : World) (e : Ending) (w' : World) : Prop :=
  if ok = true then ∃ G L M, e = .returned (.tuple #[.pointer (some ⟨G, 0, none⟩), .int .i64 0]) ∧ NewGrd R C g w G L M w' else e = .returned (.tuple #[.pointer none, .int .i64 3]) ∧ Below w.heap.size w w'
theorem sp_in {R C : Int} {ss : List Sp} {k : Nat} (h : spE R C ss k = 0) : (0 ≤ (sAt ss k).row ∧ (sAt ss k).row < R) ∧ (0 ≤ (sAt ss k).col ∧ (sAt ss k).col < C) ∧ ((sAt ss k).cs.length : Int) ≤ C - (sAt ss k).col := by
  unfold spE at h
  split at h
  · omega
  · split at h
    · omega
    · omega
theorem LB_over {l cs : List Cel} {a : Nat} (h1 : LB l) (h2 : LB cs) : LB (overL l a cs) := by
  unfold overL
  refine LB_tab fun i hi => ?_
  split
  · exact h2 _ (by omega)
  · exact h1 _ hi
theorem check_zero {R C r0 l0 : Int} {ss : List Sp} (h : checkD ⟨R, C, r0, l0, ss⟩ = 0) : sizeN R C ∧ ∀ k, k < ss.length → spE R C ss k = 0 := by
  unfold checkD at h
  simp only at h
  split at h
  · omega
  · split at h
    · omega
    · rename_i q1 q2
      exact ⟨Classical.not_not.1 q1, errTo_zero h⟩
theorem arK {r : Int} {R : Nat} (h : 0 ≤ r ∧ r < (R : Int)) : ∃ q : Nat, r = (q : Int) ∧ q < R := ⟨r.toNat, by omega, by omega⟩
theorem arU {u a C : Nat} (h1 : a < C) (h : (u : Int) ≤ (C : Int) - (a : Int)) : u ≤ C - a ∧ a + (C - a) = C := by omega
set_option maxHeartbeats 4000000 in
theorem dfapply_any {w : World} {G L M R' C' : Nat} {g : Gd} (h : Grd w G L M R' C' g) (hok : GOk g R' C') (hS : Spans w) (C0 : Nat) (te t : TypeId) (d : Df) (A : Option Addr) (n c : Nat) (hsp : Sps C0 te t .i32 w A d.ss) (hC : C0 ≤ w.heap.size) (hn : d.ss.length = n) (hl : n ≤ 1000000) (hlb : ∀ s ∈ d.ss, LB s.cs) (hE : checkD d = 0) :
    Calls Tryz.prog 15 #[.agg #[.int .i64 d.rows, .int .i64 d.cols, .int .i64 d.row, .int .i64 d.col, .slice A n c], .pointer (some ⟨G, 0, none⟩)] w (Applied d.rows.toNat d.cols.toNat (okD d.cols.toNat (fitG g d.rows.toNat d.cols.toNat) d.ss) (applyG d g) w) := by
  obtain ⟨R9, C9, r0, l0, ss⟩ := d
  simp only at hsp hn hlb ⊢
  obtain ⟨hsz, hsp0⟩ := check_zero hE
  obtain ⟨R, C, rfl, rfl, r1, r2, c1, c2⟩ := sizeN_small hsz
  rw [Int.toNat_natCast, Int.toNat_natCast]
  have hfit := hok.fit r1 r2 c1 c2
  obtain ⟨W0, hW0⟩ : ∃ W0, w.alloc (.cells #[.int .i64 (R : Int), .int .i64 (C : Int), .int .i64 r0, .int .i64 l0, .slice A n c] 33) = W0 := ⟨_, rfl⟩
  have HB0 : Hid (Below w.heap.size w W0) := by unfold Hid; rw [← hW0]; exact new1W _ _
  have HX0 : Hid (Whole W0 w.heap.size 33 [.int .i64 (R : Int), .int .i64 (C : Int), .int .i64 r0, .int .i64 l0, .slice A n c]) := by unfold Hid; rw [← hW0]; exact Whole.new w 33 [.int .i64 (R : Int), .int .i64 (C : Int), .int .i64 r0, .int .i64 l0, .slice A n c]
  have HSP := hide hsp
  have HA := hide (hsp.below HB0.out hC)
  have HC : Hid (C0 ≤ W0.heap.size) := Nat.le_trans hC HB0.out.size
  have HN := hide hn
  have HSP0 := hide hsp0
  have HLBS := hide hlb
  have HE := hide hE
  have HG0 := hide (h.later HB0.out)
  have HS0 := hide (hS.below HB0.out)
  have hC' := hok.c2
  have HW0 := hide hW0
  clear hW0 hsp hn hsp0 hlb hE hC h hok hS hsz
  go_enter Tryz.func15, Tryz.ntmps15
  go_wp2_with fail
  rw [HW0.out]
  refine (dfcheck_any C0 te t ⟨(R : Int), (C : Int), r0, l0, ss⟩ A n c W0 HA.out HC.out HN.out hl).mono ?_
  rw [HE.out]
  rintro e k1 ⟨rfl, hb⟩
  have HB1 := hide (HB0.out.trans (hb.mono HB0.out.size))
  have HX1 := hide (HX0.out.later hb)
  have HG1 := hide (HG0.out.later hb)
  have HS1 := hide (HS0.out.below hb)
  clear hb
  obtain ⟨d0, d1, d2, d3, d4, ld⟩ := cells5 HX1.out
  go_wp2_with fail
  refine (fit_yes HG1.out hC' R C r1 r2 c1 c2).mono ?_
  obtain ⟨fg, hfg⟩ : ∃ fg, fitG g R C = fg := ⟨_, rfl⟩
  rw [hfg] at hfit ⊢
  have HFG := hide hfg
  have HFO := hide hfit
  rintro e W2 ⟨G3, L3, M3, rfl, hg, hb, n1, n2, n3⟩
  have HP2 := hide hg
  have HB2 := hide hb
  have HX2 := hide (HX1.out.later hb)
  have HS2 := hide (HS1.out.below hb)
  have HNN : Hid (k1.heap.size ≤ G3 ∧ k1.heap.size ≤ L3 ∧ k1.heap.size ≤ M3) := ⟨n1, n2, n3⟩
  clear hg hb n1 n2 n3 hfg hfit d0 d1 d2 d3 d4 ld
  obtain ⟨d0, d1, d2, d3, d4, ld⟩ := cells5 HX2.out
  go_wp2
  clear d0 d1 d2 d3 d4 ld
  go_loopw [31] (fun i wr => ∃ k : Nat, k ≤ n ∧ i = .int .i64 k ∧ Hid (Grd wr G3 L3 M3 R C (foldD C fg (ss.take k))) ∧ Hid (Below k1.heap.size k1 wr) ∧ Hid (okD C fg (ss.take k) = true)) (fun i _ => n - (intOf i).toNat)
  case atStart => exact ⟨0, Nat.zero_le _, rfl, HP2.out, HB2.out, rfl⟩
  case round =>
    obtain ⟨k, hk, rfl, HP, HB, HOK⟩ := hrel
    have hfo := GOk.fold (ss.take k) HFO.out (fun s hs => HLBS.out s (List.mem_of_mem_take hs))
    have HFK := hide hfo
    have HBw := hide (HB1.out.trans (HB.out.mono HB1.out.size))
    have HSr := hide (HS1.out.below HB.out)
    by_cases hlt : k < n
    · have hkl : k < ss.length := by rw [HN.out]; exact hlt
      obtain ⟨b, off, A1, c1', rfl, lb0, x0, x1, x2, xi, -⟩ := HSP.out.at (i := k) hkl
      rw [← HBw.out.cell (p := ⟨b, off + k * 3, none⟩) lb0] at x0
      rw [← HBw.out.cell (p := ⟨b, off + k * 3 + 1, none⟩) lb0] at x1
      rw [← HBw.out.cell (p := ⟨b, off + k * 3 + 2, none⟩) lb0] at x2
      have lb : b < wr.heap.size := Nat.lt_of_lt_of_le lb0 HBw.out.size
      have hci := xi.cels.below HBw.out
      obtain ⟨s1, s2, s3⟩ := sp_in (HSP0.out k hkl)
      have hlk := HLBS.out _ (mem_sAt ss k hkl)
      have hfn := fold_next C fg ss k hkl
      have hon := ok_next C fg ss k hkl HOK.out
      have hnot := fun z => ok_not C fg ss k hkl HOK.out z
      obtain ⟨x, hx⟩ : ∃ x, sAt ss k = x := ⟨_, rfl⟩
      rw [hx] at x0 x1 x2 hci s1 s2 s3 hlk hfn hon hnot
      obtain ⟨r, l, cs⟩ := x
      simp only at x0 x1 x2 hci s1 s2 s3 hlk
      obtain ⟨rr, rfl, hrr⟩ := arK s1
      obtain ⟨a0, rfl, ha0⟩ := arK s2
      obtain ⟨u, hnu⟩ : ∃ u, cs.length = u := ⟨_, rfl⟩
      rw [hnu] at x2 s3
      obtain ⟨hu1, hu2⟩ := arU ha0 s3
      obtain ⟨gk, hgk⟩ : ∃ gk, foldD C fg (ss.take k) = gk := ⟨_, rfl⟩
      rw [hgk] at HP HFK hfn hon hnot
      obtain ⟨X, hX⟩ : ∃ X, lAt gk.ls rr = X := ⟨_, rfl⟩
      have hXl : X.length = C := by rw [← hX]; exact (HFK.out.each rr hrr).1
      have hXb : LB X := by rw [← hX]; exact (HFK.out.each rr hrr).2.2
      have hst : stepOk C gk ⟨(rr : Int), (a0 : Int), cs⟩ = layOk gk (rr : Int) (overL X a0 cs) C := by rw [← hX]; rfl
      have hsd : stepD C gk ⟨(rr : Int), (a0 : Int), cs⟩ = layG gk (rr : Int) (overL X a0 cs) C := by rw [← hX]; rfl
      rw [hst] at hon hnot
      rw [hsd] at hfn
      have hlen : (overL X a0 cs).length = C := by rw [over_len, hXl]
      have hlbo : LB (overL X a0 cs) := LB_over hXb hlk
      obtain ⟨ok1, hok1⟩ : ∃ ok1, layOk gk (rr : Int) (overL X a0 cs) C = ok1 := ⟨_, rfl⟩
      rw [hok1] at hon hnot
      obtain ⟨m, hm⟩ : ∃ m, C - a0 = m := ⟨_, rfl⟩
      rw [hm] at hu1 hu2
      have HXX := hide hX
      have HXL := hide hXl
      have HNU := hide hnu
      have HFN := hide hfn
      have HON := hide hon
      have HNOT := hide hnot
      have HLN := hide hlen
      have HLBO := hide hlbo
      have HOK1 := hide hok1
      have HUM := hide hu1
      have HAM := hide hu2
      have HM := hide hm
      have HRR := hide (arH hrr)
      have HGK := hide hgk
      have HC6 : Hid (C ≤ 1000000) := Nat.le_trans c2 (by decide)
      have hac : a0 < C := ha0
      obtain ⟨W4, hW4⟩ : ∃ W4, wr.alloc (.cells #[.int .i64 (rr : Int), .int .i64 (a0 : Int), .slice A1 u c1'] 47) = W4 := ⟨_, rfl⟩
      obtain ⟨P4, hP4⟩ : ∃ P4, wr.heap.size = P4 := ⟨_, rfl⟩
      have HZ4 : Hid (Whole W4 P4 47 [.int .i64 (rr : Int), .int .i64 (a0 : Int), .slice A1 u c1']) := by unfold Hid; rw [← hW4, ← hP4]; exact Whole.new wr 47 [.int .i64 (rr : Int), .int .i64 (a0 : Int), .slice A1 u c1']
      have HB4 : Hid (Below wr.heap.size wr W4) := by unfold Hid; rw [← hW4]; exact new1W _ _
      have HP4g := hide (HP.out.later HB4.out)
      have HI4 := hide (hci.below HB4.out)
      have HW4 := hide hW4
      have HP4 := hide hP4
      clear hX hXl hXb hst hsd hlen hlbo hok1 hm hu1 hu2 hfn hon hnot hlk hci xi hx s1 s2 s3 hrr ha0 hnu hgk hW4 hP4 lb0
      obtain ⟨z0, z1, z2, lz⟩ := cells3 HZ4.out
      go_wp2_with fail
      rw [HW4.out, HP4.out]
      refine (gline_any HP4g.out (rr : Int) HRR.out HC6.out).mono ?_
      rw [Int.toNat_natCast, HXX.out]
      rintro e k5 ⟨v5, rfl, ho5⟩
      obtain ⟨gl, cx, rfl⟩ : ∃ gl cx, v5 = .slice (some ⟨gl, 0, none⟩) C cx := by
        rcases ho5.own.2 with ⟨e, h0⟩ | ⟨g5, c5, cur, hv, -⟩
        · rw [HXL.out] at h0; rw [h0] at c1; exact absurd c1 (by decide)
        · exact ⟨g5, c5, by rw [hv, HXL.out]⟩
      have hcx : C ≤ cx := by
        obtain ⟨A', cap', e', _, h', _⟩ := ho5.form
        simp only [Value.slice.injEq] at e'
        obtain ⟨-, -, rfl⟩ := e'
        rw [HXL.out] at h'; exact h'
      have hgl : W4.heap.size ≤ gl := by
        rcases ho5.own.2 with ⟨e, _⟩ | ⟨g5, c5, cur, hv, hB, -⟩
        · cases e
        · simp only [Value.slice.injEq, Option.some.injEq, Addr.mk.injEq, and_true] at hv
          rw [hv.1]; exact hB
      have HGL : Hid (wr.heap.size ≤ gl) := Nat.le_trans HB4.out.size hgl
      have HGL2 := hide hgl
      have HB5 := hide (HB4.out.trans (ho5.bel.mono HB4.out.size))
      have HP5 := hide (HP4g.out.later ho5.bel)
      have HI5 := hide (HI4.out.below ho5.bel)
      have HZ5 := hide (HZ4.out.later ho5.bel)
      have HO5 : Hid (OwnC 65 .i32 W4.heap.size k5 k5 (.slice (some ⟨gl, 0, none⟩) C cx) X) := ⟨ho5.own, Below.refl _ _, ho5.le⟩
      obtain ⟨cm, hcm⟩ : ∃ cm, cx - a0 = cm := ⟨_, rfl⟩
      have HCM := hide hcm
      have p1 : (0 : Int) ≤ (a0 : Int) := Int.natCast_nonneg _
      have p2 : (a0 : Int) ≤ (C : Int) := Int.ofNat_le.2 (Nat.le_of_lt hac)
      have p3 : (a0 : Int) ≤ (cx : Int) := Int.ofNat_le.2 (Nat.le_trans (Nat.le_of_lt hac) hcx)
      have p4 : ¬ cx = a0 := Nat.ne_of_gt (Nat.lt_of_lt_of_le hac hcx)
      have p5 : a0 ≤ C := Nat.le_of_lt hac
      clear ho5 hcm hgl z0 z1 z2 lz x0 x1 x2
      go_upto_region 11 with fail
      refine rgL (fun w' => Below k5.heap.size k5 w') 6 [(0, 0), (0, 1), (0, 4), (0, 2), (0, 3), (1, 5), (3, 6)] ((Below.refl _ _).drewN 1) ?_
      obtain ⟨w7, hw7⟩ : ∃ w7, k5.drew = w7 := ⟨_, rfl⟩
      have B7 : Below k5.heap.size k5 w7 := by rw [← hw7]; exact (Below.refl _ _).drewN 1
      have HO7 := hide (HO5.out.later B7)
      have HI7 := hide (HI5.out.below B7)
      have HP7 := hide (HP5.out.later B7)
      have HZ7 := hide (HZ5.out.later B7)
      rw [hw7]
      clear hw7
      iterate 3 refine stL (h := ?_)
      refine stL (hy := fun w hS => by obtain ⟨f0, f1, f2, -⟩ := cells3 (HZ5.out.later hS); go_simp <;> with_reducible rfl) (h := ?_)
      refine stL (v := .slice (some ⟨gl, a0 * 7, none⟩) m cm) (hy := fun w hS => by rw [← HM.out, ← HCM.out]; go_simp) (h := ?_)
      obtain ⟨z0, z1, z2, lz⟩ := cells3 HZ7.out
      refine alL fun K hK => ?_
      go_wp2
      refine hK.out _ _ (B7) ?_
      clear hK K
      clear z0 z1 z2 lz
      obtain ⟨W8, hrun, ho8, hon8⟩ := run_copyO elemL 3 gl a0 X cs A1 C cx m cm u c1' HO7.out HI7.out HNU.out HUM.out HAM.out
      have HO8 := hide ho8
      have HON8 := hide hon8
      have HNE : Hid (P4 ≠ gl) := Nat.ne_of_lt (Nat.lt_of_lt_of_le HZ4.out.lt HGL2.out)
      clear ho8 hon8
      refine laL fun K hK => ?_
      go_wp2
      refine hK.out _ _ ?_
      clear hK K hrun
      refine chainL_nil ?_
      have hb8 : Below wr.heap.size wr W8 := HON8.out.below (HB5.out.trans (B7.mono HB5.out.size)) (Nat.le_trans HB5.out.size B7.size) HGL.out
      have HP8 := hide (HP.out.later hb8)
      have HS8 := hide (HSr.out.below hb8)
      have HZ8 := hide (HZ7.out.far HON8.out (HNE.out))
      have HC8 : Hid (Cels .i32 W8 (some ⟨gl, 0, none⟩) (overL X a0 cs)) := by
        obtain ⟨A', cap', e', h', _⟩ := HO8.out.form
        simp only [Value.slice.injEq] at e'
        obtain ⟨rfl, -, -⟩ := e'
        exact h'
      have HB8 := hide hb8
      clear hb8
      obtain ⟨z0, z1, z2, lz⟩ := cells3 HZ8.out
      go_wp2_with fail
      refine (glay_any HP8.out c2 HS8.out (rr : Int) (some ⟨gl, 0, none⟩) C cx (overL X a0 cs) HC8.out HLN.out HC6.out HLBO.out).mono ?_
      rw [HOK1.out]
      rintro e k9 ⟨rfl, hg9, ht9⟩
      have HP9 := hide hg9
      have HB9 := hide (ht9.below (HB.out.trans (HB8.out.mono HB.out.size)) (Nat.le_trans HB.out.size HB8.out.size) HNN.out.1 HNN.out.2.1 HNN.out.2.2)
      clear hg9 ht9 z0 z1 z2 lz
      cases ok1
      · have HF : Hid (okD C fg ss = false) := HNOT.out rfl
        go_wp2
        go_ret2
        unfold Applied
        rw [HFG.out, HF.out, if_neg (by decide)]
        exact ⟨rfl, HB1.out.trans (HB9.out.mono HB1.out.size)⟩
      · go_wp2
        go_roundw
        case rel => exact ⟨k + 1, hlt, by go_num, by unfold Hid; rw [HFN.out]; exact HP9.out, HB9, HON.out⟩
        case measure => simp [intOf]; exact arM hlt
    · have hkn := arD hk hlt
      subst hkn
      have htk : ss.take k = ss := List.take_of_length_le (Nat.le_of_eq HN.out)
      rw [htk] at HP HFK HOK
      obtain ⟨d0, d1, d2, d3, d4, ld⟩ := cells5 (HX1.out.later HB.out)
      go_wp2_with fail
      refine (move_any HP.out r1 r2 c1 c2 r0 l0).mono ?_
      rintro e k9 ⟨rfl, hg9, ho9⟩
      have HP9 := hide hg9
      have HB9 := hide (ho9.below HBw.out HBw.out.size (Nat.le_trans HB1.out.size HNN.out.1))
      clear hg9 ho9
      go_wp2
      go_ret2
      unfold Applied
      rw [HFG.out, HOK.out, if_pos rfl]
      refine ⟨G3, L3, M3, rfl, ?_, HB9.out, Nat.le_trans HB1.out.size HNN.out.1, Nat.le_trans HB1.out.size HNN.out.2.1, Nat.le_trans HB1.out.size HNN.out.2.2⟩
      unfold applyG
      simp only [Int.toNat_natCast, HFG.out]
      exact HP9.out
end Go.Proofs.YtoddfaoifnkhlaaGreatDoor
