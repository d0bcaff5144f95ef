/-
  Contracts: what a difference makes of a grid (the document's).
-/
import Derived.Test.YtoddfaoifnkhlaaGreatDoorDRef1
import Derived.Test.YtoddfaoifnkhlaaGreatDoorDApply
import Derived.Test.YtoddfaoifnkhlaaGreatDoorB10
import Derived.Test.YtoddfaoifnkhlaaGreatDoorB12
import Derived.BigQuiet
import Derived.Deep.DeepCutAuto
import Derived.Deep.CutRange
namespace Go.Proofs.YtoddfaoifnkhlaaGreatDoor
set_option maxRecDepth 100000
open Go.ChangeShapes Go.WideShapes Go.ChangeAt Go.RowKit
set_option linter.unusedVariables false

theorem OwnC.frz {e : TypeId} {k : IntKind} {B : Nat} {w wr : World} {g n cap : Nat} {cs : List Cel} (h : OwnC e k B w wr (.slice (some ⟨g, 0, none⟩) n cap) cs) : ∀ i, wr.frozen? ⟨g, i, none⟩ = false := by
  rcases h.own.2 with ⟨h0, -⟩ | ⟨g', cap', cur, hv, -, hh, -⟩
  · cases h0
  · cases hv; intro i; simp [World.frozen?, hh]
theorem OwnC.cels0 {e : TypeId} {k : IntKind} {B : Nat} {w wr : World} {g n cap : Nat} {cs : List Cel} (h : OwnC e k B w wr (.slice (some ⟨g, 0, none⟩) n cap) cs) : Cels k wr (some ⟨g, 0, none⟩) cs := by
  obtain ⟨A', cap', e', h', _⟩ := h.form
  simp only [Value.slice.injEq] at e'
  obtain ⟨rfl, -, -⟩ := e'
  exact h'
theorem OwnC.chain {e : TypeId} {k : IntKind} {B : Nat} {w0 wy w7 w8 : World} {v v' : Value} {cs cs' : List Cel} (h : OwnC e k B w0 wy v cs) (hb : Below wy.heap.size wy w7) (h2 : OwnC e k B w7 w8 v' cs') : OwnC e k B w0 w8 v' cs' := ⟨h2.own, h.bel.trans ((hb.mono h.le).trans h2.bel), h2.le⟩
theorem overK_len (l : List Cel) (a : Nat) (cs : List Cel) (k : Nat) : (overK l a cs k).length = l.length := over_len _ _ _
theorem arU5 {a u C : Nat} (h : a + u ≤ C) (h2 : C ≤ 512) : u ≤ 512 := by omega
theorem arJ {a j u C : Nat} (hj : j < u) (h : a + u ≤ C) : a + j < C := by omega
theorem arWJ {a j C : Nat} {aj : Nat} (h : a + j = aj) (h1 : aj < C) (h2 : C ≤ 512) : IntKind.i64.wrap ((a : Int) + (j : Int)) = (aj : Int) := by rw [IntKind.wrap_i64]; omega
theorem arUU {u a C : Nat} (h1 : a < C) (h : (u : Int) ≤ (C : Int) - (a : Int)) : a + u ≤ C := by omega
/-- What the document's Apply gives of a difference that is right. -/
def AppliedD (R C : Nat) (ok : Bool) (g : Gd) (w : World) (e : Ending) (w' : World) : Prop :=
  if ok = true then ∃ A c, e = .returned (.tuple #[.agg #[.slice A R c, .int .i64 (g.row : Int), .int .i64 (g.col : Int)], .int .i64 0]) ∧ Lns w' A g.ls ∧ Below w.heap.size w w'
  else e = .returned (.tuple #[.agg #[.slice none 0 0, .int .i64 0, .int .i64 0], .int .i64 3]) ∧ Below w.heap.size w w'
set_option maxHeartbeats 1000000 in
theorem rdapply_bad (C0 : Nat) (te t : TypeId) (d : Df) (g : Gd) (A B : Option Addr) (n c R' cb : Nat) (w : World) (h : Sps C0 te t .i64 w A d.ss) (hC : C0 ≤ w.heap.size) (hn : d.ss.length = n) (hl : n ≤ 1000000) (hE : checkD d ≠ 0) :
    Calls Tryz.prog 21 #[.agg #[.int .i64 d.rows, .int .i64 d.cols, .int .i64 d.row, .int .i64 d.col, .slice A n c], .agg #[.slice B R' cb, .int .i64 (g.row : Int), .int .i64 (g.col : Int)]] w fun e w' => e = .returned (.tuple #[.agg #[.slice none 0 0, .int .i64 0, .int .i64 0], .int .i64 (checkD d)]) ∧ Below w.heap.size w w' := by
  obtain ⟨E, hE1⟩ : ∃ E, checkD d = E := ⟨_, rfl⟩
  rw [hE1] at hE ⊢
  obtain ⟨W0, hW0⟩ : ∃ W0, ((w.alloc (.cells #[.int .i64 d.rows, .int .i64 d.cols, .int .i64 d.row, .int .i64 d.col, .slice A n c] 38)).alloc (.cells #[.slice B R' cb, .int .i64 (g.row : Int), .int .i64 (g.col : Int)] 26)).alloc (.cells #[.slice none 0 0, .int .i64 0, .int .i64 0] 26) = W0 := ⟨_, rfl⟩
  have HB0 : Hid (Below w.heap.size w W0) := by unfold Hid; rw [← hW0]; exact three_newW w _ _ _
  have HX0 : Hid (Whole W0 w.heap.size 38 [.int .i64 d.rows, .int .i64 d.cols, .int .i64 d.row, .int .i64 d.col, .slice A n c]) := by unfold Hid; rw [← hW0]; exact ((Whole.new w 38 [.int .i64 d.rows, .int .i64 d.cols, .int .i64 d.row, .int .i64 d.col, .slice A n c]).alloc _).alloc _
  have HR0 : Hid (Whole W0 (w.heap.size + 1 + 1) 26 [.slice none 0 0, .int .i64 0, .int .i64 0]) := by unfold Hid; rw [← hW0]; exact whole_thd w _ _ 26 [.slice none 0 0, .int .i64 0, .int .i64 0]
  have HA := hide (h.below HB0.out hC)
  have HC : Hid (C0 ≤ W0.heap.size) := Nat.le_trans hC HB0.out.size
  have HN := hide hn
  have HE1 := hide hE1
  have hne : (E != 0) = true := by simpa using hE
  have HW0 := hide hW0
  clear hW0 h hn hE1 hE hC
  obtain ⟨d0, d1, d2, d3, d4, ld⟩ := cells5 HX0.out
  go_enter Tryz.func21, Tryz.ntmps21
  go_wp2_with fail
  rw [HW0.out]
  refine (rdcheck_any C0 te t d A n c W0 HA.out HC.out HN.out hl).mono ?_
  rw [HE1.out]
  rintro e k1 ⟨rfl, hb⟩
  have HB1 := hide (HB0.out.trans (hb.mono HB0.out.size))
  have HR1 := hide (HR0.out.later hb)
  clear hb d0 d1 d2 d3 d4 ld
  obtain ⟨z0, z1, z2, lz⟩ := cells3 HR1.out
  have fz := HR1.out.frozen
  have HP := hide (put3 HR1.out (.slice none 0 0) (.int .i64 0) (.int .i64 0))
  have HBP := hide (below_put3 HB1.out (Nat.le_trans (Nat.le_succ _) (Nat.le_succ _)) (.slice none 0 0) (.int .i64 0) (.int .i64 0))
  go_wp2
  exact retG2 Tryz.results21 rfl rfl rfl HP.out ⟨rfl, HBP.out⟩
set_option maxHeartbeats 4000000 in
theorem rdapply_any {w : World} {R' C' : Nat} {g : Gd} (B : Option Addr) (cb : Nat) (h : Lns w B g.ls) (hok : GOk g R' C') (C0 : Nat) (te t : TypeId) (d : Df) (A : Option Addr) (n c : Nat) (hsp : Sps C0 te t .i64 w A d.ss) (hC : C0 ≤ w.heap.size) (hn : d.ss.length = n) (hl : n ≤ 1000000) (hlb : ∀ s ∈ d.ss, LB s.cs) (hE : checkD d = 0) :
    Calls Tryz.prog 21 #[.agg #[.int .i64 d.rows, .int .i64 d.cols, .int .i64 d.row, .int .i64 d.col, .slice A n c], .agg #[.slice B R' cb, .int .i64 (g.row : Int), .int .i64 (g.col : Int)]] w (AppliedD d.rows.toNat d.cols.toNat (okD d.cols.toNat (fitG g d.rows.toNat d.cols.toNat) d.ss) (applyG d g) w) := by
  obtain ⟨R9, C9, r0, l0, ss⟩ := d
  simp only at hsp hn hlb ⊢
  obtain ⟨hsz, hsp0⟩ := check_zero hE
  obtain ⟨R, C, rfl, rfl, r1, r2, c1, c2⟩ := sizeN_small hsz
  rw [Int.toNat_natCast, Int.toNat_natCast]
  have hfit := hok.fit r1 r2 c1 c2
  obtain ⟨W0, hW0⟩ : ∃ W0, ((w.alloc (.cells #[.int .i64 (R : Int), .int .i64 (C : Int), .int .i64 r0, .int .i64 l0, .slice A n c] 38)).alloc (.cells #[.slice B R' cb, .int .i64 (g.row : Int), .int .i64 (g.col : Int)] 26)).alloc (.cells #[.slice none 0 0, .int .i64 0, .int .i64 0] 26) = W0 := ⟨_, rfl⟩
  have HB0 : Hid (Below w.heap.size w W0) := by unfold Hid; rw [← hW0]; exact three_newW w _ _ _
  have HX0 : Hid (Whole W0 w.heap.size 38 [.int .i64 (R : Int), .int .i64 (C : Int), .int .i64 r0, .int .i64 l0, .slice A n c]) := by unfold Hid; rw [← hW0]; exact ((Whole.new w 38 [.int .i64 (R : Int), .int .i64 (C : Int), .int .i64 r0, .int .i64 l0, .slice A n c]).alloc _).alloc _
  have HG0 : Hid (Whole W0 (w.heap.size + 1) 26 [.slice B R' cb, .int .i64 (g.row : Int), .int .i64 (g.col : Int)]) := by unfold Hid; rw [← hW0]; exact (whole_snd w _ 26 [.slice B R' cb, .int .i64 (g.row : Int), .int .i64 (g.col : Int)]).alloc _
  have HR0 : Hid (Whole W0 (w.heap.size + 1 + 1) 26 [.slice none 0 0, .int .i64 0, .int .i64 0]) := by unfold Hid; rw [← hW0]; exact whole_thd w _ _ 26 [.slice none 0 0, .int .i64 0, .int .i64 0]
  have HSP := hide hsp
  have HA := hide (hsp.below HB0.out hC)
  have HL0 := hide (h.below HB0.out)
  have HC : Hid (C0 ≤ W0.heap.size) := Nat.le_trans hC HB0.out.size
  have HN := hide hn
  have HSP0 := hide hsp0
  have HLBS := hide hlb
  have HE := hide hE
  have HGO := hide hok
  have HW0 := hide hW0
  clear hW0 hsp hn hsp0 hlb hE hC h hok hsz
  obtain ⟨d0, d1, d2, d3, d4, ld⟩ := cells5 HX0.out
  go_enter Tryz.func21, Tryz.ntmps21
  go_wp2_with fail
  rw [HW0.out]
  refine (rdcheck_any C0 te t ⟨(R : Int), (C : Int), r0, l0, ss⟩ A n c W0 HA.out HC.out HN.out hl).mono ?_
  rw [HE.out]
  rintro e k1 ⟨rfl, hb⟩
  have HB1 := hide (HB0.out.trans (hb.mono HB0.out.size))
  have HX1 := hide (HX0.out.later hb)
  have HG1 := hide (HG0.out.later hb)
  have HR1 := hide (HR0.out.later hb)
  have HL1 := hide (HL0.out.below hb)
  clear hb d0 d1 d2 d3 d4 ld
  obtain ⟨d0, d1, d2, d3, d4, ld⟩ := cells5 HX1.out
  obtain ⟨z0, z1, z2, lz⟩ := cells3 HG1.out
  go_wp2_with fail
  refine (rgfit_any B R' C' cb g k1 HL1.out HGO.out R C r1 r2 c1 c2).mono ?_
  obtain ⟨fg, hfg⟩ : ∃ fg, fitG g R C = fg := ⟨_, rfl⟩
  rw [hfg] at hfit ⊢
  have HFG := hide hfg
  have HFO := hide hfit
  rintro e k2 ⟨A7, c7, rfl, hl7, hb7⟩
  obtain ⟨P7, hP7⟩ : ∃ P7, k2.heap.size = P7 := ⟨_, rfl⟩
  obtain ⟨W3, hW3⟩ : ∃ W3, k2.alloc (.cells #[.slice A7 R c7, .int .i64 (fg.row : Int), .int .i64 (fg.col : Int)] 26) = W3 := ⟨_, rfl⟩
  have HP3 : Hid (Whole W3 P7 26 [.slice A7 R c7, .int .i64 (fg.row : Int), .int .i64 (fg.col : Int)]) := by unfold Hid; rw [← hW3, ← hP7]; exact Whole.new k2 26 [.slice A7 R c7, .int .i64 (fg.row : Int), .int .i64 (fg.col : Int)]
  have HL3 : Hid (Lns W3 A7 fg.ls) := by unfold Hid; rw [← hW3]; exact hl7.alloc _
  have HB2 := hide (HB1.out.trans (hb7.mono HB1.out.size))
  have HX2 := hide (HX1.out.later hb7)
  have HR2 := hide (HR1.out.later hb7)
  have HB3 : Hid (Below P7 k2 W3) := by unfold Hid; rw [← hW3, ← hP7]; exact new1W _ _
  have hP7w : w.heap.size ≤ P7 := by rw [← hP7]; exact HB2.out.size
  have hX7 : w.heap.size < P7 := by rw [← hP7]; exact HX2.out.lt
  have hR7 : w.heap.size + 1 + 1 < P7 := by rw [← hP7]; exact HR2.out.lt
  have HP7w := hide hP7w
  have HX7 := hide hX7
  have HR7 := hide hR7
  have HW3 := hide hW3
  have HP7 := hide hP7
  clear hfg hfit hl7 hb7 hP7 hW3 hP7w hX7 hR7 d0 d1 d2 d3 d4 ld z0 z1 z2 lz
  go_wp2
  rw [HW3.out, HP7.out]
  go_loopw [8] (fun i wr => ∃ (k : Nat) (A7 : Option Addr) (c7 : Nat), k ≤ n ∧ i = .int .i64 k ∧ Hid (Whole wr P7 26 [.slice A7 R c7, .int .i64 ((foldD C fg (ss.take k)).row : Int), .int .i64 ((foldD C fg (ss.take k)).col : Int)]) ∧ Hid (Lns wr A7 (foldD C fg (ss.take k)).ls) ∧ Hid (Below P7 k2 wr) ∧ Hid (okD C fg (ss.take k) = true)) (fun i _ => n - (intOf i).toNat)
  case atStart => exact ⟨0, A7, c7, Nat.zero_le _, rfl, HP3.out, HL3.out, HB3, rfl⟩
  case round =>
    obtain ⟨k, A7k, c7k, hk, rfl, HP, HL, HB, HOK⟩ := hrel
    have hfo := GOk.fold (ss.take k) HFO.out (fun s hs => HLBS.out s (List.mem_of_mem_take hs))
    have HFK := hide hfo
    have HBw := hide (HB2.out.trans (HB.out.mono HP7w.out))
    have HPR : Hid (P7 ≤ wr.heap.size) := by unfold Hid; rw [← HP7.out]; exact HB.out.size
    have HXr := hide (HX2.out.below HB.out HX7.out)
    have HRr := hide (HR2.out.below HB.out HR7.out)
    obtain ⟨d0, d1, d2, d3, d4, ld⟩ := cells5 HXr.out
    by_cases hlt : k < n
    · have hkl : k < ss.length := by rw [HN.out]; exact hlt
      obtain ⟨b, off, A1, c1', rfl, lb0, x0, x1, x2, xi, -⟩ := HSP.out.at (i := k) hkl
      rw [← HBw.out.cell (p := ⟨b, off + k * 3, none⟩) lb0] at x0
      rw [← HBw.out.cell (p := ⟨b, off + k * 3 + 1, none⟩) lb0] at x1
      rw [← HBw.out.cell (p := ⟨b, off + k * 3 + 2, none⟩) lb0] at x2
      have lb : b < wr.heap.size := Nat.lt_of_lt_of_le lb0 HBw.out.size
      have hci := xi.cels.below HBw.out
      obtain ⟨s1, s2, s3⟩ := sp_in (HSP0.out k hkl)
      have hlk := HLBS.out _ (mem_sAt ss k hkl)
      have hfn := fold_next C fg ss k hkl
      have hon := ok_next C fg ss k hkl HOK.out
      have hnot := fun z => ok_not C fg ss k hkl HOK.out z
      obtain ⟨x, hx⟩ : ∃ x, sAt ss k = x := ⟨_, rfl⟩
      rw [hx] at x0 x1 x2 hci s1 s2 s3 hlk hfn hon hnot
      obtain ⟨r, l, cs⟩ := x
      simp only at x0 x1 x2 hci s1 s2 s3 hlk
      obtain ⟨rr, rfl, hrr⟩ := arK s1
      obtain ⟨a0, rfl, ha0⟩ := arK s2
      obtain ⟨u, hnu⟩ : ∃ u, cs.length = u := ⟨_, rfl⟩
      rw [hnu] at x2 s3
      have hau := arUU ha0 s3
      obtain ⟨gk, hgk⟩ : ∃ gk, foldD C fg (ss.take k) = gk := ⟨_, rfl⟩
      rw [hgk] at HP HL HFK hfn hon hnot
      obtain ⟨b7, A9, c9, rfl, lb7, hc9, hro9, hx9, hz9⟩ := HL.out.at (i := rr) (by rw [HFK.out.len]; exact hrr)
      obtain ⟨X, hX⟩ : ∃ X, lAt gk.ls rr = X := ⟨_, rfl⟩
      rw [hX] at hc9 hx9
      have hXl : X.length = C := by rw [← hX]; exact (HFK.out.each rr hrr).1
      have hXb : LB X := by rw [← hX]; exact (HFK.out.each rr hrr).2.2
      rw [hXl] at hc9
      have hst : stepOk C gk ⟨(rr : Int), (a0 : Int), cs⟩ = layOk gk (rr : Int) (overL X a0 cs) C := by rw [← hX]; rfl
      have hsd : stepD C gk ⟨(rr : Int), (a0 : Int), cs⟩ = layG gk (rr : Int) (overL X a0 cs) C := by rw [← hX]; rfl
      rw [hst] at hon hnot
      rw [hsd] at hfn
      have hlbo : LB (overL X a0 cs) := LB_over hXb hlk
      obtain ⟨ok1, hok1⟩ : ∃ ok1, layOk gk (rr : Int) (overL X a0 cs) C = ok1 := ⟨_, rfl⟩
      rw [hok1] at hon hnot
      have HXL := hide hXl
      have HNU := hide hnu
      have HFN := hide hfn
      have HON := hide hon
      have HNOT := hide hnot
      have HLBO := hide hlbo
      have HOK1 := hide hok1
      have HAU := hide hau
      have hu512 := arU5 hau c2
      have HC6 : Hid (C ≤ 1000000) := Nat.le_trans c2 (by decide)
      have hrR : (rr : Int) < (R : Int) := Int.ofNat_lt.2 hrr
      have hr0' : (0 : Int) ≤ (rr : Int) := Int.natCast_nonneg _
      obtain ⟨W4, hW4⟩ : ∃ W4, wr.alloc (.cells #[.int .i64 (rr : Int), .int .i64 (a0 : Int), .slice A1 u c1'] 87) = W4 := ⟨_, rfl⟩
      obtain ⟨P4, hP4⟩ : ∃ P4, wr.heap.size = P4 := ⟨_, rfl⟩
      have hb4 : Below wr.heap.size wr W4 := by rw [← hW4]; exact new1W _ _
      have HZ4 : Hid (Whole W4 P4 87 [.int .i64 (rr : Int), .int .i64 (a0 : Int), .slice A1 u c1']) := by unfold Hid; rw [← hW4, ← hP4]; exact Whole.new wr 87 [.int .i64 (rr : Int), .int .i64 (a0 : Int), .slice A1 u c1']
      have HP4w := hide (HP.out.later hb4)
      have HL4 := hide (HL.out.below hb4)
      have HCI4 := hide (hci.below hb4)
      have HX4 := hide (HXr.out.later hb4)
      have HC9 := hide ((hb4.cell (p := ⟨b7, rr, none⟩) lb7).trans hc9)
      have HL9 : Hid (b7 < W4.heap.size) := Nat.lt_of_lt_of_le lb7 hb4.size
      have HX9 := hide (hx9.below hb4)
      have HZ9 := hide hz9
      have HB4 := hide hb4
      have HW4 := hide hW4
      have HP4 := hide hP4
      have HML : Hid (([] : List Cel).length + C ≤ 1000000) := by show 0 + C ≤ 1000000; rw [Nat.zero_add]; exact HC6.out
      have HX5 := hide hX
      clear hX hXl hXb hst hsd hlbo hok1 hau hfn hon hnot hlk hci xi hx s1 s2 s3 hrr ha0 hnu hgk hW4 hP4 lb0 hb4 lb7 hc9 hro9 hx9 hz9
      obtain ⟨z0, z1, z2, lz⟩ := cells3 HZ4.out
      obtain ⟨g0, g1, g2, lg⟩ := cells3 HP4w.out
      have hc9 := HC9.out
      have hl9 := HL9.out
      go_upto_region 9 with fail
      rw [HW4.out, HP4.out]
      clear x0 x1 x2
      go_wp2_with (at_builtin; refine stopw ?_)
      unfold Hid
      refine wpList_catC elemLC rfl _ _ rfl rfl rfl (OwnC.empty W4 95 .i64) (HX9.out.alloc _) HXL.out HZ9.out HML.out (by decide) ?_
      intro v5 k5 ho5
      rw [List.nil_append] at ho5
      obtain ⟨gl, cl, rfl⟩ : ∃ gl cl, v5 = .slice (some ⟨gl, 0, none⟩) C cl := by
        rcases ho5.own.2 with ⟨e, h0⟩ | ⟨g5, c5, cur, hv, -⟩
        · rw [HXL.out] at h0; rw [h0] at c1; exact absurd c1 (by decide)
        · exact ⟨g5, c5, by rw [hv, HXL.out]⟩
      obtain ⟨B4, hB4⟩ : ∃ B4, W4.heap.size = B4 := ⟨_, rfl⟩
      have hlz4 : P4 < B4 := by rw [← hB4]; exact HZ4.out.lt
      have hx4 : w.heap.size < B4 := by rw [← hB4]; exact HX4.out.lt
      have HO5 : Hid (OwnC 95 .i64 B4 W4 k5 (.slice (some ⟨gl, 0, none⟩) C cl) (overK X a0 cs 0)) := by
        unfold Hid
        rw [overK_0, ← hB4]
        exact ho5
      have HLZ := hide hlz4
      have HX4b := hide hx4
      have HB4q := hide hB4
      clear ho5 hB4 hlz4 hx4 z0 z1 z2 lz g0 g1 g2 lg hc9 hl9 d0 d1 d2 d3 d4 ld
      go_wp2
      go_loopw [11] (fun v wy => ∃ j : Nat, j ≤ u ∧ v = .int .i64 j ∧ Hid (OwnC 95 .i64 B4 W4 wy (.slice (some ⟨gl, 0, none⟩) C cl) (overK X a0 cs j))) (fun v _ => u - (intOf v).toNat)
      case atStart => exact ⟨0, Nat.zero_le _, rfl, HO5⟩
      case round =>
        obtain ⟨j, hju, rfl, HO⟩ := hrel
        obtain ⟨wy, rfl⟩ : ∃ wy, wy = wr := ⟨_, rfl⟩
        have HZy := hide (HZ4.out.below HO.out.bel HLZ.out)
        obtain ⟨z0, z1, z2, lz⟩ := cells3 HZy.out
        by_cases hj : j < u
        · obtain ⟨aj, haj⟩ : ∃ aj, a0 + j = aj := ⟨_, rfl⟩
          have haC : aj < C := by rw [← haj]; exact arJ hj HAU.out
          have hw := arWJ haj haC c2
          have hon2 := overK_next X a0 cs j (by rw [HNU.out]; exact hj)
          rw [haj] at hon2
          have HAJ := hide haC
          have haI : (aj : Int) < (C : Int) := Int.ofNat_lt.2 haC
          have haN : (0 : Int) ≤ (aj : Int) := Int.natCast_nonneg _
          obtain ⟨⟨r8, m8, y8, z8, ⟨f8, g8, b8⟩⟩, hcj⟩ : ∃ q, cAt cs j = q := ⟨_, rfl⟩
          rw [hcj] at hon2
          obtain ⟨⟨r9, m9, y9, z9, ⟨f9, g9, b9⟩⟩, hcv⟩ : ∃ q, cAt (overK X a0 cs j) aj = q := ⟨_, rfl⟩
          have HON2 := hide hon2
          have HBy4 : Hid (Below W4.heap.size W4 wy) := by unfold Hid; rw [HB4q.out]; exact HO.out.bel
          obtain ⟨bb, oo, rfl, lbb, -⟩ := HCI4.out.at (i := j) (by rw [HNU.out]; exact hj)
          have ljI : (j : Int) < (u : Int) := Int.ofNat_lt.2 hj
          clear haj hon2 haC
          go_upto_region 13 with fail
          refine rgL (fun w' => Below wy.heap.size wy w') 11 [(0, 0), (0, 3), (0, 7), (0, 1), (0, 5), (0, 2), (0, 4), (1, 6), (1, 8), (1, 9), (1, 10), (3, 11)] ((Below.refl _ _).drewN 1) ?_
          iterate 5 refine stL (h := ?_)
          refine stL (hy := fun w hS => by obtain ⟨f0, f1, f2, -⟩ := cells3 (HZy.out.later hS); go_simp <;> with_reducible rfl) (h := ?_)
          refine stL (h := ?_)
          obtain ⟨w7, hw7⟩ : ∃ w7, wy.drew = w7 := ⟨_, rfl⟩
          have B7 : Below wy.heap.size wy w7 := by rw [← hw7]; exact (Below.refl _ _).drewN 1
          have HO7 : Hid (OwnC 95 .i64 B4 w7 w7 (.slice (some ⟨gl, 0, none⟩) C cl) (overK X a0 cs j)) := ⟨(HO.out.later B7).own, Below.refl _ _, (HO.out.later B7).le⟩
          obtain ⟨f0, f1, f2, lf⟩ := cells3 (HZy.out.later B7)
          rw [hw7]
          clear hw7
          refine alL fun K hK => ?_
          go_wp2
          refine hK.out _ _ (B7) ?_
          clear hK K
          obtain ⟨s0, s1, s2, s3, s4, s5, s6, ls⟩ := ((HCI4.out.below HBy4.out).below B7).sevenC j (by rw [HNU.out]; exact hj) hcj
          refine alL fun K hK => ?_
          go_wp2
          refine hK.out _ _ (B7) ?_
          clear hK K
          refine alL fun K hK => ?_
          go_wp2
          refine hK.out _ _ (B7) ?_
          clear hK K
          obtain ⟨v0, v1, v2, v3, v4, v5, v6, lv⟩ := (HO7.out.cels0).sevenC aj (by rw [overK_len, HXL.out]; exact HAJ.out) hcv
          simp only [Nat.zero_add] at v0 v1 v2 v3 v4 v5 v6
          refine alL fun K hK => ?_
          go_wp2
          refine hK.out _ _ (B7) ?_
          clear hK K
          have hfz := HO7.out.frz
          have hfin := hide (HO7.out.put (by rw [overK_len, HXL.out]) (aj * 7) aj rfl HAJ.out ⟨r8, m8, y8, z8, ⟨f8, g8, b8⟩⟩)
          refine laL fun K hK => ?_
          go_wp2
          refine hK.out _ _ ?_
          clear hK K
          refine chainL_nil ?_
          have HOF := hide (HO.out.chain B7 hfin.out)
          go_wp2
          go_roundw
          case rel => exact ⟨j + 1, hj, by go_num, by unfold Hid; rw [HON2.out]; exact HOF.out⟩
          case measure => simp [intOf]; exact arM hj
        · have hje := arD hju hj
          subst hje
          have hall := overK_all X a0 cs j (Nat.le_of_eq HNU.out)
          rw [hall] at HO
          have HBy4 : Hid (Below W4.heap.size W4 wy) := by unfold Hid; rw [HB4q.out]; exact HO.out.bel
          have HPy := hide (HP4w.out.later HBy4.out)
          have HLy := hide (HL4.out.below HBy4.out)
          have HXy := hide (HX4.out.later HBy4.out)
          obtain ⟨g0, g1, g2, lg⟩ := cells3 HPy.out
          have HRy := hide ((HRr.out.later HB4.out).later HBy4.out)
          have HByw := hide (HB.out.trans ((HB4.out.trans (HBy4.out.mono HB4.out.size)).mono HPR.out))
          have HCo := hide HO.out.cels0
          have HLO : Hid ((overL X a0 cs).length = C) := by unfold Hid; rw [over_len, HXL.out]
          go_wp2_with fail
          refine (rglay_any (some ⟨b7, 0, none⟩) R C c7k gk wy HLy.out HFK.out (rr : Int) (some ⟨gl, 0, none⟩) C cl (overL X a0 cs) HCo.out HLO.out HC6.out HLBO.out).mono ?_
          rw [HOK1.out]
          rintro e k12 ⟨A12, c12, rfl, hl12, hb12⟩
          rw [← HFN.out] at hl12 ⊢
          obtain ⟨gn, hgn⟩ : ∃ gn, foldD C fg (ss.take (k + 1)) = gn := ⟨_, rfl⟩
          rw [hgn] at hl12 ⊢
          have HGN := hide hgn
          obtain ⟨P12, hP12⟩ : ∃ P12, k12.heap.size = P12 := ⟨_, rfl⟩
          obtain ⟨W12, hW12⟩ : ∃ W12, k12.alloc (.cells #[.slice A12 R c12, .int .i64 (gn.row : Int), .int .i64 (gn.col : Int)] 26) = W12 := ⟨_, rfl⟩
          have hb13 : Below wy.heap.size wy W12 := by rw [← hW12]; exact hb12.alloc hb12.size _
          have HL12 : Hid (Lns W12 A12 gn.ls) := by unfold Hid; rw [← hW12]; exact hl12.alloc _
          have HZ12 : Hid (Whole W12 P12 26 [.slice A12 R c12, .int .i64 (gn.row : Int), .int .i64 (gn.col : Int)]) := by unfold Hid; rw [← hW12, ← hP12]; exact Whole.new k12 26 [.slice A12 R c12, .int .i64 (gn.row : Int), .int .i64 (gn.col : Int)]
          have HP12 := hide (HPy.out.later hb13)
          have HR12 := hide (HRy.out.later hb13)
          have HP12k := hide (HPy.out.later hb12)
          have HR12k := hide (HRy.out.later hb12)
          have hPy : P7 ≤ wy.heap.size := Nat.le_of_lt HPy.out.lt
          have HB12 := hide (HByw.out.trans (hb13.mono hPy))
          have HW12 := hide hW12
          have HP12q := hide hP12
          clear hl12 hb12 hb13 hgn hW12 hP12 hPy z0 z1 z2 lz g0 g1 g2 lg
          go_upto_region 15 with fail
          rw [HW12.out, HP12q.out]
          cases ok1
          · have HF : Hid (okD C fg ss = false) := HNOT.out rfl
            obtain ⟨z0, z1, z2, lz⟩ := cells3 HR12.out
            have fz := HR12.out.frozen
            have HPF := hide (put3 HR12.out (.slice none 0 0) (.int .i64 0) (.int .i64 0))
            have HBF := hide (below_put3 (HB2.out.trans (HB12.out.mono HP7w.out)) (Nat.le_trans (Nat.le_succ _) (Nat.le_succ _)) (.slice none 0 0) (.int .i64 0) (.int .i64 0))
            go_wp2
            refine retG2 Tryz.results21 rfl rfl rfl HPF.out ?_
            unfold AppliedD
            rw [HFG.out, HF.out, if_neg (by decide)]
            exact ⟨rfl, HBF.out⟩
          · obtain ⟨z0, z1, z2, lz⟩ := cells3 HP12.out
            obtain ⟨g0, g1, g2, lg⟩ := cells3 HZ12.out
            have fz := HP12.out.frozen
            have HPF := hide (put3 HP12.out (.slice A12 R c12) (.int .i64 (gn.row : Int)) (.int .i64 (gn.col : Int)))
            have HLF := hide (HL12.out.put3 HP12.out (by decide) (by decide) (.slice A12 R c12) (.int .i64 (gn.row : Int)) (.int .i64 (gn.col : Int)))
            have HBF := hide (below_put3 HB12.out (Nat.le_refl _) (.slice A12 R c12) (.int .i64 (gn.row : Int)) (.int .i64 (gn.col : Int)))
            go_wp2
            go_roundw
            case rel => exact ⟨k + 1, A12, c12, hlt, by go_num, by rw [HGN.out]; exact HPF, by rw [HGN.out]; exact HLF, HBF, HON.out⟩
            case measure => simp [intOf]; exact arM hlt
    · have hkn := arD hk hlt
      subst hkn
      have htk : ss.take k = ss := List.take_of_length_le (Nat.le_of_eq HN.out)
      rw [htk] at HP HL HFK HOK
      obtain ⟨g0, g1, g2, lg⟩ := cells3 HP.out
      go_wp2_with fail
      refine (rgmove_any A7k R C c7k (foldD C fg ss) wr HL.out HFK.out.len r1 r2 c1 c2 (HFK.out.each 0 r1).1 r0 l0).mono ?_
      rintro e k9 ⟨A10, c10, rfl, hl10, hb10⟩
      have HR10 := hide (HRr.out.later hb10)
      have HL10 := hide hl10
      have HB10 := hide (HBw.out.trans (hb10.mono HBw.out.size))
      clear hl10 hb10 g0 g1 g2 lg d0 d1 d2 d3 d4 ld
      obtain ⟨z0, z1, z2, lz⟩ := cells3 HR10.out
      have fz := HR10.out.frozen
      obtain ⟨gm, hgm⟩ : ∃ gm, moveG (foldD C fg ss) r0 l0 C = gm := ⟨_, rfl⟩
      rw [hgm] at HL10 ⊢
      have HGM := hide hgm
      have HPF := hide (put3 HR10.out (.slice A10 R c10) (.int .i64 (gm.row : Int)) (.int .i64 (gm.col : Int)))
      have HLF := hide (HL10.out.put3 HR10.out (by decide) (by decide) (.slice A10 R c10) (.int .i64 (gm.row : Int)) (.int .i64 (gm.col : Int)))
      have HBF := hide (below_put3 HB10.out (Nat.le_trans (Nat.le_succ _) (Nat.le_succ _)) (.slice A10 R c10) (.int .i64 (gm.row : Int)) (.int .i64 (gm.col : Int)))
      clear hgm
      go_wp2
      refine retG2 Tryz.results21 rfl rfl rfl HPF.out ?_
      unfold AppliedD
      rw [HFG.out, HOK.out, if_pos rfl]
      have hag : applyG ⟨(R : Int), (C : Int), r0, l0, ss⟩ g = gm := by
        rw [← HGM.out]
        unfold applyG
        simp only [Int.toNat_natCast, HFG.out]
      rw [hag]
      exact ⟨A10, c10, rfl, HLF.out, HBF.out⟩
end Go.Proofs.YtoddfaoifnkhlaaGreatDoor
