/-
  Contracts and plain mathematics of EAsk, EGrid, EAlike, EMath2, EKnown0, UEnc, LText, EKnown, EPair, POpen.
-/
import Derived.Test.YtkijclgbpbhglaaGreatDoorQd33
import Derived.Test.YtkijclgbpbhglaaGreatDoorQd16
import Derived.Test.YtkijclgbpbhglaaGreatDoorQd13
import Derived.Test.YtkijclgbpbhglaaGreatDoorQd20
import Derived.Test.YtkijclgbpbhglaaGreatDoorQd19
import Derived.Test.YtkijclgbpbhglaaGreatDoorQd22
import Derived.Test.YtkijclgbpbhglaaGreatDoorQd32
import Derived.Test.YtkijclgbpbhglaaGreatDoorQd9
import Derived.Test.YtkijclgbpbhglaaGreatDoorQd8
import Derived.Test.YtkijclgbpbhglaaGreatDoorQd3
import Derived.Laws.BitsAllLaws
import Derived.Test.YtkijclgbpbhglaaGreatDoorQd10
import Derived.Test.YtkijclgbpbhglaaGreatDoorQd5
import Derived.Test.YtkijclgbpbhglaaGreatDoorQd18
import Derived.Lib.SlBytesConst
import Derived.Test.YtkijclgbpbhglaaGreatDoorQd15
import Derived.Test.YtkijclgbpbhglaaGreatDoorQd1
import Derived.ShutString
import Derived.ChangeOld
import Derived.Below
import Derived.Lib.SmallJoins
namespace Go.Proofs.YtkijclgbpbhglaaGreatDoor
set_option maxRecDepth 100000
set_option linter.unusedVariables false
set_option maxHeartbeats 8000000
section
open Go.ChangeShapes Go.WideShapes Go.ChangeAt Go.RowKit
section
variable {w : World} {b : Bl} {L R C : Nat} {e : Em}
def MadeE (R C : Nat) (e : Em) (w : World) (b : Bl) (L : Nat) (w' : World) : Prop := Emu w' b L R C e ∧ Below w.heap.size w w' ∧ Low w.heap.size b L
theorem low_of {B : Nat} (h1 : B ≤ b.E) (h2 : B ≤ b.G) (h3 : B ≤ L) (h4 : B ≤ b.M) (h5 : B ≤ b.P) : Low B b L := by
 intro x hx
 simp only [Bl.l, List.mem_cons, List.not_mem_nil, or_false] at hx
 rcases hx with rfl | rfl | rfl | rfl | rfl <;> assumption
theorem Low.five {B : Nat} (h : Low B b L) : B ≤ b.E ∧ B ≤ b.G ∧ B ≤ L ∧ B ≤ b.M ∧ B ≤ b.P := ⟨h _ (by simp [Bl.l]), h _ (by simp [Bl.l]), h _ (by simp [Bl.l]), h _ (by simp [Bl.l]), h _ (by simp [Bl.l])⟩
theorem Low.mono {B B' : Nat} (h : Low B b L) (hB : B' ≤ B) : Low B' b L := fun x hx => Nat.le_trans hB (h x hx)
theorem enew_yes (R C : Nat) (r1 : 1 ≤ R) (r2 : R ≤ 512) (c1 : 1 ≤ C) (c2 : C ≤ 512) (w : World) (hS : Spans w) :
  Calls Tryz.prog 9 #[.int .i64 R, .int .i64 C] w fun x w' => ∃ b L, x = .returned (.tuple #[.pointer (some ⟨b.E, 0, none⟩), .int .i64 0]) ∧ MadeE R C (newE R C) w b L w' := by
 have HS := hide hS; clear hS
 go_enter Tryz.func9, Tryz.ntmps9
 go_wp2_with fail
 refine (gnew_yes R C r1 r2 c1 c2 w).mono ?_
 rintro x w1 ⟨G, L, M, rfl, hg, hb, n1, n2, n3⟩
 have HM : Hid (MadeE R C (newE R C) w ⟨w1.heap.size + 1, G, M, w1.heap.size⟩ L ((w1.alloc (.cells #[.int .u8 0, .int .u8 0, .int .u8 0, .int .u8 0, .int .i64 0, .int .i64 0, .int .i64 0, .int .i64 0, .int .i64 0, .int .i64 0, .int .i64 0, .int .i64 0, .int .i64 0, .int .i64 0, .int .i64 0, .int .i64 0] 93)).alloc (.cells #[.pointer (some ⟨G, 0, none⟩), .pointer (some ⟨w1.heap.size, 0, none⟩), .int .u8 0, .int .u8 0, .int .u8 0, .bool false] 95))) := by
  have hb2 : Below w1.heap.size w1 ((w1.alloc (.cells #[.int .u8 0, .int .u8 0, .int .u8 0, .int .u8 0, .int .i64 0, .int .i64 0, .int .i64 0, .int .i64 0, .int .i64 0, .int .i64 0, .int .i64 0, .int .i64 0, .int .i64 0, .int .i64 0, .int .i64 0, .int .i64 0] 93)).alloc (.cells #[.pointer (some ⟨G, 0, none⟩), .pointer (some ⟨w1.heap.size, 0, none⟩), .int .u8 0, .int .u8 0, .int .u8 0, .bool false] 95)) := ((Below.refl _ _).alloc (Nat.le_refl _) _).alloc (by simp) _
  have hbb := hb.trans (hb2.mono hb.size)
  have hz := hb.size
  exact ⟨⟨whole_snd w1 _ 95 [.pointer (some ⟨G, 0, none⟩), .pointer (some ⟨w1.heap.size, 0, none⟩), .int .u8 0, .int .u8 0, .int .u8 0, .bool false], hg.later hb2, (Pr.new w1).later ((Below.refl _ _).alloc (Nat.le_refl _) _), new_ok R C r1 r2 c1 c2, HS.out.below hbb⟩, hbb, low_of (by show w.heap.size ≤ w1.heap.size + 1; omega) n1 n2 n3 hz⟩
 clear hg hb n1 n2 n3; go_wp2; go_ret2
 exact ⟨_, _, rfl, HM.out⟩
theorem enew_no (r c : Int) (h : ¬ sizeN r c) (w : World) : Calls Tryz.prog 9 #[.int .i64 r, .int .i64 c] w fun x w' => x = .returned (.tuple #[.pointer none, .int .i64 11]) ∧ w = w' := by
 go_enter Tryz.func9, Tryz.ntmps9
 go_wp2_with fail
 refine (gnew_no r c h w).mono ?_
 rintro x w1 ⟨rfl, rfl⟩
 go_wp2; go_ret2
 exact ⟨rfl, rfl⟩
theorem egrid_any (h : Emu w b L R C e) : Calls Tryz.prog 20 #[.pointer (some ⟨b.E, 0, none⟩)] w (GaveG R C e.g w) := by
 have hR1 := h.ok.g.r1
 have hR2 := h.ok.g.r2
 have hC1 := h.ok.g.c1
 have hC2 := h.ok.g.c2
 obtain ⟨c0, c1, c2, c3, c4, c5, lE⟩ := h.six
 have HE := hide h; clear h
 go_enter Tryz.func20, Tryz.ntmps20
 go_wp2_with fail
 refine (copy_any HE.out.grd hR1 hR2 hC1 hC2).mono ?_
 rintro x w1 ⟨G1, L1, M1, rfl, hn⟩
 have HN := hide hn; clear hn c0 c1 c2 c3 c4 c5 lE; go_wp2; go_ret
 exact ⟨_, _, _, rfl, HN.out⟩
theorem epen_any (h : Emu w b L R C e) : Calls Tryz.prog 25 #[.pointer (some ⟨b.E, 0, none⟩)] w (Penned e.pen w) := by
 have hb := h.later ((Below.refl _ _).alloc (Nat.le_refl _) (.cells #[.int .u8 0, .int .u8 0, .int .u8 0] 65))
 obtain ⟨c0, c1, c2, c3, c4, c5, lE⟩ := hb.six
 clear h hb
 go_enter Tryz.func25, Tryz.ntmps25
 go_wp2
 exact ret3 Tryz.results25 (.inl rfl) rfl rfl (Whole.new w 65 [.int .u8 e.pen.f, .int .u8 e.pen.g, .int .u8 e.pen.b]) ⟨rfl, (Below.refl _ _).alloc (Nat.le_refl _) _⟩
theorem ewrap_any (h : Emu w b L R C e) : Calls Tryz.prog 26 #[.pointer (some ⟨b.E, 0, none⟩)] w fun x w' => x = .returned (.bool e.wrap) ∧ w = w' := by
 obtain ⟨c0, c1, c2, c3, c4, c5, lE⟩ := h.six
 clear h
 go_enter Tryz.func26, Tryz.ntmps26
 go_wp2; go_ret
 exact ⟨rfl, rfl⟩
theorem erest_any (h : Emu w b L R C e) (bo : Bool) (hbo : restP e.p = bo) : Calls Tryz.prog 27 #[.pointer (some ⟨b.E, 0, none⟩)] w (Said bo w) := by
 obtain ⟨c0, c1, c2, c3, c4, c5, lE⟩ := h.six
 have HE := hide h; clear h
 go_enter Tryz.func27, Tryz.ntmps27
 go_wp2_with fail
 refine (prest_any HE.out.par bo hbo).mono ?_
 rintro x w1 ⟨rfl, hb⟩
 have HB := hide hb; clear hb c0 c1 c2 c3 c4 c5 lE; go_wp2; go_ret
 exact ⟨rfl, HB.out⟩
def Sized (b : Bl) (L R C : Nat) (e : Em) (w : World) (w' : World) : Prop := ∃ b2 L2, b2.E = b.E ∧ Emu w' b2 L2 R C e ∧ Ch [b.E] w w' ∧ (∀ B, Low B b L → B ≤ w.heap.size → Low B b2 L2)
theorem eresize_yes (h : Emu w b L R C e) (R2 C2 : Nat) (r1 : 1 ≤ R2) (r2 : R2 ≤ 512) (q1 : 1 ≤ C2) (q2 : C2 ≤ 512) : Calls Tryz.prog 13 #[.pointer (some ⟨b.E, 0, none⟩), .int .i64 R2, .int .i64 C2] w fun x w' => x = .returned (.int .i64 0) ∧ Sized b L R2 C2 (resizeE e R2 C2) w w' := by
 have hR1 := h.ok.g.r1
 have hR2 := h.ok.g.r2
 have hC1 := h.ok.g.c1
 have hC2 := h.ok.g.c2
 obtain ⟨c0, c1, c2, c3, c4, c5, lE⟩ := h.six
 have HE := hide h; clear h
 go_enter Tryz.func13, Tryz.ntmps13
 go_wp2_with fail
 refine (fit_yes HE.out.grd hC2 R2 C2 r1 r2 q1 q2).mono ?_
 rintro x w1 ⟨G1, L1, M1, rfl, hg, hb, n1, n2, n3⟩
 have HS : Hid (Sized b L R2 C2 (resizeE e R2 C2) w ((w1.setCell ⟨b.E, 0, none⟩ (.pointer (some ⟨G1, 0, none⟩))).setCell ⟨b.E, 5, none⟩ (.bool false))) := by
  have h1 := HE.out.later hb
  obtain ⟨l1, l2, l3, l4, l5⟩ := HE.out.lts
  obtain ⟨⟨-, -, -, n4⟩, -⟩ := HE.out.nes
  have ho : Only b.E w1 ((w1.setCell ⟨b.E, 0, none⟩ (.pointer (some ⟨G1, 0, none⟩))).setCell ⟨b.E, 5, none⟩ (.bool false)) := (Only.put 0 _).trans (Only.put 5 _)
  have hc : Ch [b.E] w ((w1.setCell ⟨b.E, 0, none⟩ (.pointer (some ⟨G1, 0, none⟩))).setCell ⟨b.E, 5, none⟩ (.bool false)) := (Ch.of_below hb).trans (Ch.of_only ho (by simp)) (fun y hy => .inl hy)
  have k : ∀ i, i < w1.heap.size → b.E ≠ i → ((w1.setCell ⟨b.E, 0, none⟩ (.pointer (some ⟨G1, 0, none⟩))).setCell ⟨b.E, 5, none⟩ (.bool false)).heap[i]? = w1.heap[i]? := fun i hi hne => ho.block i hi (by simp; exact Ne.symm hne)
  have z := hb.size
  refine ⟨⟨b.E, G1, M1, b.P⟩, L1, rfl, ⟨(h1.top.put 0 _).put 5 _, hg.same (k _ hg.ltG (by omega)) (k _ hg.ltL (by omega)) (k _ hg.ltM (by omega)), h1.par.same (k _ h1.par.lt n4), resize_ok HE.out.ok R2 C2 r1 r2 q1 q2, HE.out.sp.ch hc (by have := HE.out.no0; simp [Bl.l] at this ⊢; omega)⟩, hc, ?_⟩
  intro B hl hB
  obtain ⟨a1, a2, a3, a4, a5⟩ := hl.five
  exact low_of a1 (by show B ≤ G1; omega) (by omega) (by show B ≤ M1; omega) a5
 have h1 := HE.out.later hb
 have HZ := hide h1.top.frozen; clear hg hb n1 n2 n3 c0 c1 c2 c3 c4 c5 lE
 obtain ⟨c0, c1, c2, c3, c4, c5, lE⟩ := h1.six
 have hz := HZ.out
 clear h1; go_wp2; go_ret
 exact ⟨rfl, HS.out⟩
theorem eresize_no (h : Emu w b L R C e) (r c : Int) (hs : ¬ sizeN r c) : Calls Tryz.prog 13 #[.pointer (some ⟨b.E, 0, none⟩), .int .i64 r, .int .i64 c] w fun x w' => x = .returned (.int .i64 11) ∧ Below w.heap.size w w' := by
 obtain ⟨c0, c1, c2, c3, c4, c5, lE⟩ := h.six
 have HE := hide h; clear h
 go_enter Tryz.func13, Tryz.ntmps13
 go_wp2_with fail
 refine (fit_no HE.out.grd r c hs).mono ?_
 rintro x w1 ⟨rfl, hb⟩
 have HB := hide hb; clear hb c0 c1 c2 c3 c4 c5 lE; go_wp2; go_ret
 exact ⟨rfl, HB.out⟩
theorem ecopy_any (h : Emu w b L R C e) : Calls Tryz.prog 15 #[.pointer (some ⟨b.E, 0, none⟩)] w fun x w' => ∃ b2 L2, x = .returned (.pointer (some ⟨b2.E, 0, none⟩)) ∧ MadeE R C e w b2 L2 w' := by
 have hR1 := h.ok.g.r1
 have hR2 := h.ok.g.r2
 have hC1 := h.ok.g.c1
 have hC2 := h.ok.g.c2
 obtain ⟨c0, c1, c2, c3, c4, c5, lE⟩ := h.six
 have HE := hide h; clear h
 go_enter Tryz.func15, Tryz.ntmps15
 go_wp2
 refine rgL (fun w' => Below w.heap.size w w') 22 [(0, 0), (0, 7), (0, 12), (0, 16), (0, 1), (0, 2), (0, 3), (0, 8), (0, 9), (0, 13), (0, 14), (0, 17), (0, 18), (0, 4), (0, 10), (0, 15), (0, 19), (1, 5), (0, 6), (1, 11), (1, 20), (1, 21), (3, 22)] bd1 ?_
 iterate 13 refine stL (h := ?_)
 refine stL (hy := fun w hS => by obtain ⟨c0, c1, c2, c3, c4, c5, -⟩ := (HE.out.later hS).six; go_simp <;> with_reducible rfl) (h := ?_)
 refine stL (hy := fun w hS => by obtain ⟨c0, c1, c2, c3, c4, c5, -⟩ := (HE.out.later hS).six; go_simp <;> with_reducible rfl) (h := ?_)
 refine stL (hy := fun w hS => by obtain ⟨c0, c1, c2, c3, c4, c5, -⟩ := (HE.out.later hS).six; go_simp <;> with_reducible rfl) (h := ?_)
 refine stL (hy := fun w hS => by obtain ⟨c0, c1, c2, c3, c4, c5, -⟩ := (HE.out.later hS).six; go_simp <;> with_reducible rfl) (h := ?_)
 refine alL fun K hK => ?_
 go_wp2_with fail
 refine (copy_any (HE.out.later bd1).grd hR1 hR2 hC1 hC2).mono ?_
 rintro x k1 ⟨G1, L1, M1, rfl, hg, hb, n1, n2, n3⟩
 have B1 : Below w.heap.size w k1 := bd1.trans hb
 have HG := hide hg
 have HNN : Hid (w.heap.size ≤ G1 ∧ w.heap.size ≤ L1 ∧ w.heap.size ≤ M1) := ⟨n1, n2, n3⟩
 clear hg hb n1 n2 n3; go_wp2
 refine hK.out _ _ (B1) ?_
 clear hK K
 refine stL (h := ?_)
 refine alL fun K hK => ?_
 go_wp2_with fail
 refine (pcopy_any (HE.out.later B1).par).mono ?_
 rintro x k2 ⟨rfl, hp, hb⟩
 have B2 : Below w.heap.size w k2 := B1.trans (hb.mono B1.size)
 have HG2 := hide (HG.out.later hb)
 have HK1 : Hid (w.heap.size ≤ k1.heap.size) := B1.size
 have HM : Hid (MadeE R C e w ⟨k2.heap.size, G1, M1, k1.heap.size⟩ L1 (k2.alloc (.cells #[.pointer (some ⟨G1, 0, none⟩), .pointer (some ⟨k1.heap.size, 0, none⟩), .int .u8 e.pen.f, .int .u8 e.pen.g, .int .u8 e.pen.b, .bool e.wrap] 95))) := by
  have hb3 : Below k2.heap.size k2 (k2.alloc (.cells #[.pointer (some ⟨G1, 0, none⟩), .pointer (some ⟨k1.heap.size, 0, none⟩), .int .u8 e.pen.f, .int .u8 e.pen.g, .int .u8 e.pen.b, .bool e.wrap] 95)) := (Below.refl _ _).alloc (Nat.le_refl _) _
  have hbb := B2.trans (hb3.mono B2.size)
  exact ⟨⟨Whole.new k2 95 [.pointer (some ⟨G1, 0, none⟩), .pointer (some ⟨k1.heap.size, 0, none⟩), .int .u8 e.pen.f, .int .u8 e.pen.g, .int .u8 e.pen.b, .bool e.wrap], HG2.out.later hb3, hp.later hb3, HE.out.ok, HE.out.sp.below hbb⟩, hbb, low_of B2.size HNN.out.1 HNN.out.2.1 HNN.out.2.2 HK1.out⟩
 clear hp hb; go_wp2
 refine hK.out _ _ (B2) ?_
 clear hK K
 refine alL fun K hK => ?_
 go_wp2
 refine hK.out _ _ (B2) ?_
 clear hK K
 refine alL fun K hK => ?_
 go_wp2
 refine hK.out _ _ ((B2.alloc B2.size _)) ?_
 clear hK K
 refine laL fun K hK => ?_
 go_wp2
 refine hK.out _ _ ?_
 clear hK K
 refine chainL_nil ?_
 clear c0 c1 c2 c3 c4 c5 lE B1 B2; go_wp2; go_ret
 exact ⟨_, _, rfl, HM.out⟩
end
theorem lgsame_yes {G L M R C : Nat} {g : Gd} {w : World} (h : Grd w G L M R C g) (hok : GOk g R C) (A : Option Addr) (cap : Nat) (hl : Lns w A g.ls) : Calls Tryz.prog 43 #[.pointer (some ⟨G, 0, none⟩), .agg #[.slice A R cap, .int .i64 g.row, .int .i64 g.col]] w (Said true w) := by
 obtain ⟨W0, hW0⟩ := exq (w.alloc (.cells #[.slice A R cap, .int .i64 g.row, .int .i64 g.col] 32))
 have HB0 : Hid (Below w.heap.size w W0) := by unfold Hid; rw [← hW0]; exact new1W _ _
 have HX0 : Hid (Whole W0 (w.heap.size) 32 [.slice A R cap, .int .i64 g.row, .int .i64 g.col]) := by unfold Hid; rw [← hW0]; exact (Whole.new _ _ _)
 have HW0 := hide hW0; clear hW0
 have HG := hide (h.later HB0.out)
 have HL := hide (hl.below HB0.out)
 have HGO := hide hok
 have hR1 := hok.r1
 have hR2 := hok.r2
 have hC2 := hok.c2
 have HLen := hide hok.len
 have HC0 := hide (hok.each 0 hok.r1).1
 have HLn : Hid (∀ i, i < R → (lAt g.ls i).length ≤ 1000000) := by unfold Hid; intro i hi; rw [(hok.each i hi).1]; omega
 clear h hl hok
 go_enter Tryz.func43, Tryz.ntmps43
 go_wp2; rw [HW0.out]
 refine rgL (fun w' => Below W0.heap.size W0 w') 19 [(2, 0), (2, 2), (0, 3), (2, 4), (1, 1), (1, 5), (1, 6), (2, 7), (0, 9), (1, 8), (1, 10), (1, 11), (1, 12), (1, 13), (2, 14), (0, 16), (1, 15), (1, 17), (1, 18), (3, 19)] bd1 ?_
 refine puL (h := ?_)
 refine puL (h := ?_)
 refine stL (hy := fun w hS => by obtain ⟨d0, d1, d2, -⟩ := cells3 (HX0.out.later hS); go_simp <;> with_reducible rfl) (h := ?_)
 refine puL (h := ?_)
 refine alL fun K hK => ?_
 go_wp2_with fail
 refine (rows_any (HG.out.later bd1)).mono ?_
 rintro e k0 ⟨rfl, rfl⟩
 go_wp2
 refine hK.out _ _ bd1 ?_
 clear hK K
 refine alL fun K hK => ?_
 go_wp2
 refine hK.out _ _ bd1 ?_
 clear hK K
 refine alL fun K hK => ?_
 go_wp2
 refine hK.out _ _ bd1 ?_
 clear hK K
 refine puL (h := ?_)
 refine stL (hy := fun w hS => by obtain ⟨d0, d1, d2, -⟩ := cells3 (HX0.out.later hS); go_simp <;> with_reducible rfl) (h := ?_)
 refine alL fun K hK => ?_
 go_wp2_with fail
 refine (cols_any (HG.out.later bd1) hR1).mono ?_
 rintro e k0 ⟨rfl, rfl⟩
 go_wp2
 refine hK.out _ _ bd1 ?_
 clear hK K
 refine alL fun K hK => ?_
 go_wp2_with fail
 refine (rgcols_any A R cap C g.row g.col g.ls _ (HL.out.drewN 1) HLen.out hR1 HC0.out).mono ?_
 rintro e k1 ⟨rfl, hb⟩
 have B1 : Below W0.heap.size W0 k1 := ((Below.refl W0.heap.size W0).drewN 1).trans hb
 clear hb; go_wp2
 refine hK.out _ _ (B1) ?_
 clear hK K
 refine alL fun K hK => ?_
 go_wp2
 refine hK.out _ _ (B1) ?_
 clear hK K
 refine alL fun K hK => ?_
 go_wp2
 refine hK.out _ _ (B1) ?_
 clear hK K
 refine alL fun K hK => ?_
 go_wp2
 refine hK.out _ _ (B1) ?_
 clear hK K
 refine puL (h := ?_)
 refine stL (hy := fun w hS => by obtain ⟨d0, d1, d2, -⟩ := cells3 (HX0.out.later hS); go_simp <;> with_reducible rfl) (h := ?_)
 refine alL fun K hK => ?_
 go_wp2_with fail
 refine (gof_any (HG.out.later B1) HGO.out).mono ?_
 rintro e k2 ⟨A5, cap5, rfl, hl, hb⟩
 have B2 : Below W0.heap.size W0 k2 := B1.trans (hb.mono B1.size)
 have HL5 := hide hl; clear hl hb; go_wp2
 refine hK.out _ _ (B2) ?_
 clear hK K
 refine alL fun K hK => ?_
 go_wp2_with fail
 refine (rgsame_any A5 A R R cap5 cap g g k2 HL5.out (HL.out.below B2) HLen.out HLen.out hR2 HLn.out).mono ?_
 rintro e k3 ⟨rfl, hb⟩
 rw [sameG_self]
 have B3 : Below W0.heap.size W0 k3 := B2.trans (hb.mono B2.size)
 clear hb; go_wp2
 refine hK.out _ _ (B3) ?_
 clear hK K
 refine alL fun K hK => ?_
 go_wp2
 refine hK.out _ _ (B3) ?_
 clear hK K
 refine laL fun K hK => ?_
 go_wp2
 refine hK.out _ _ ?_
 clear hK K
 refine chainL_nil ?_
 have HBZ := hide (HB0.out.trans (B3.mono HB0.out.size))
 clear B1 B2 B3; go_wp2; go_ret
 exact ⟨rfl, HBZ.out⟩
theorem ealike_any {w : World} {b : Bl} {L R C : Nat} {e : Em} {d : Dv} (h : Emu w b L R C e) (hd : Doc w d e) : Calls Tryz.prog 16 #[.pointer (some ⟨b.E, 0, none⟩), .agg #[.slice d.A R d.cap, .int .i64 e.g.row, .int .i64 e.g.col, .int .i64 e.p.st, .slice d.N d.ln d.cn, .slice d.H d.lh d.ch, .int .u8 e.pen.f, .int .u8 e.pen.g, .int .u8 e.pen.b, .bool e.wrap]] w (Said true w) := by
 obtain ⟨W0, hW0⟩ := exq (w.alloc (.cells #[.slice d.A R d.cap, .int .i64 e.g.row, .int .i64 e.g.col, .int .i64 e.p.st, .slice d.N d.ln d.cn, .slice d.H d.lh d.ch, .int .u8 e.pen.f, .int .u8 e.pen.g, .int .u8 e.pen.b, .bool e.wrap] 40))
 have HB0 : Hid (Below w.heap.size w W0) := by unfold Hid; rw [← hW0]; exact new1W _ _
 have HX0 : Hid (Whole W0 w.heap.size 40 [.slice d.A R d.cap, .int .i64 e.g.row, .int .i64 e.g.col, .int .i64 e.p.st, .slice d.N d.ln d.cn, .slice d.H d.lh d.ch, .int .u8 e.pen.f, .int .u8 e.pen.g, .int .u8 e.pen.b, .bool e.wrap]) := by unfold Hid; rw [← hW0]; exact Whole.new _ _ _
 have HW0 := hide hW0
 have HE := hide (h.later HB0.out)
 have HD := hide (hd.below HB0.out)
 have HOK := hide h.ok
 obtain ⟨br, hbr⟩ := exq (restP e.p)
 have HBR := hide hbr
 have hpe : ∀ w : World, (binOp .eql 38 (.agg #[.int .u8 e.pen.f, .int .u8 e.pen.g, .int .u8 e.pen.b]) (.agg #[.int .u8 e.pen.f, .int .u8 e.pen.g, .int .u8 e.pen.b])).run Tryz.prog w = .ok (.bool true) w := fun w => by have := eql38 e.pen.f e.pen.g e.pen.b e.pen.f e.pen.g e.pen.b w; rw [pn_eqP_self] at this; exact this
 clear hW0 h hd hbr
 go_enter Tryz.func16, Tryz.ntmps16
 go_wp2; rw [HW0.out]
 refine rgL (fun w' => Below W0.heap.size W0 w') 27 [(0, 0), (0, 2), (0, 3), (1, 1), (1, 4), (1, 5), (0, 6), (0, 8), (0, 9), (1, 7), (1, 10), (1, 11), (1, 12), (0, 13), (0, 15), (0, 16), (1, 14), (1, 17), (1, 18), (1, 19), (0, 20), (0, 22), (0, 23), (1, 21), (1, 24), (1, 25), (1, 26), (3, 27)] bd1 ?_
 refine stL (h := ?_)
 refine stL (h := ?_)
 refine stL (hy := fun w hS => by obtain ⟨p0, p1, p2, p3, p4, p5, p6, p7, p8, p9, lp⟩ := cells10 (HX0.out.later hS); go_simp <;> with_reducible rfl) (h := ?_)
 refine alL fun K hK => ?_
 go_wp2_with fail
 refine (egrid_any (HE.out.later bd1)).mono ?_
 rintro x k1 ⟨G1, L1, M1, rfl, hg, hb, -⟩
 have B1 : Below W0.heap.size W0 k1 := bd1.trans hb
 have HG1 := hide hg; clear hg hb; go_wp2
 refine hK.out _ _ (B1) ?_
 clear hK K
 refine alL fun K hK => ?_
 go_wp2_with fail
 refine (lgsame_yes HG1.out HOK.out.g d.A d.cap (HD.out.below B1).lns).mono ?_
 rintro x k2 ⟨rfl, hb⟩
 have B2 : Below W0.heap.size W0 k2 := B1.trans (hb.mono B1.size)
 clear hb; go_wp2
 refine hK.out _ _ (B2) ?_
 clear hK K
 refine alL fun K hK => ?_
 go_wp2
 refine hK.out _ _ (B2) ?_
 clear hK K
 refine stL (h := ?_)
 refine stL (h := ?_)
 refine stL (hy := fun w hS => by obtain ⟨p0, p1, p2, p3, p4, p5, p6, p7, p8, p9, lp⟩ := cells10 (HX0.out.later hS); go_simp <;> with_reducible rfl) (h := ?_)
 refine alL fun K hK => ?_
 go_wp2_with fail
 refine (epen_any (HE.out.later B2)).mono ?_
 rintro x k3 ⟨rfl, hb⟩
 have B3 : Below W0.heap.size W0 k3 := B2.trans (hb.mono B2.size)
 clear hb; go_wp2
 refine hK.out _ _ (B3) ?_
 clear hK K
 refine alL fun K hK => ?_
 go_wp2
 refine hK.out _ _ (B3) ?_
 clear hK K
 refine alL fun K hK => ?_
 go_wp2
 refine hK.out _ _ (B3) ?_
 clear hK K
 refine alL fun K hK => ?_
 go_wp2
 refine hK.out _ _ (B3) ?_
 clear hK K
 refine stL (h := ?_)
 refine stL (h := ?_)
 refine stL (hy := fun w hS => by obtain ⟨p0, p1, p2, p3, p4, p5, p6, p7, p8, p9, lp⟩ := cells10 (HX0.out.later hS); go_simp <;> with_reducible rfl) (h := ?_)
 refine alL fun K hK => ?_
 go_wp2_with fail
 refine (ewrap_any (HE.out.later B3)).mono ?_
 rintro x k4 ⟨rfl, rfl⟩
 go_wp2
 refine hK.out _ _ (B3) ?_
 clear hK K
 refine alL fun K hK => ?_
 go_wp2
 refine hK.out _ _ (B3) ?_
 clear hK K
 refine alL fun K hK => ?_
 go_wp2
 refine hK.out _ _ (B3) ?_
 clear hK K
 refine alL fun K hK => ?_
 go_wp2
 refine hK.out _ _ (B3) ?_
 clear hK K
 refine stL (h := ?_)
 refine stL (h := ?_)
 refine stL (hy := fun w hS => by obtain ⟨p0, p1, p2, p3, p4, p5, p6, p7, p8, p9, lp⟩ := cells10 (HX0.out.later hS); go_simp <;> with_reducible rfl) (h := ?_)
 refine alL fun K hK => ?_
 go_wp2_with fail
 refine (erest_any (HE.out.later B3) br HBR.out).mono ?_
 rintro x k5 ⟨rfl, hb⟩
 have B5 : Below W0.heap.size W0 k5 := B3.trans (hb.mono B3.size)
 clear hb; go_wp2
 refine hK.out _ _ (B5) ?_
 clear hK K
 refine alL fun K hK => ?_
 go_wp2_with fail
 refine (rprest_any e.p d.N d.ln d.cn d.H d.lh d.ch _ (HD.out.below B5).dp br HBR.out).mono ?_
 rintro x k6 ⟨rfl, hb⟩
 have B6 : Below W0.heap.size W0 k6 := B5.trans (hb.mono B5.size)
 clear hb; go_wp2
 refine hK.out _ _ (B6) ?_
 clear hK K
 refine alL fun K hK => ?_
 go_wp2
 refine hK.out _ _ (B6) ?_
 clear hK K
 refine alL fun K hK => ?_
 go_wp2
 refine hK.out _ _ (B6) ?_
 clear hK K
 refine laL fun K hK => ?_
 go_wp2
 refine hK.out _ _ ?_
 clear hK K
 refine chainL_nil ?_
 have HBZ := hide (HB0.out.trans (B6.mono HB0.out.size))
 go_wp2; go_ret
 exact ⟨rfl, HBZ.out⟩
end
theorem feed_letters (q : Ps) (hs : q.st = 0) (hh : q.h = []) (xs : List Int) (hx : ∀ r ∈ xs, 97 ≤ r ∧ r ≤ 122) : feedP q xs = (q, prE xs) := by
 induction xs with
 | nil => rfl
 | cons b xs ih =>
  have hb := hx b (by simp)
  have hf : first [b] = (b, 1) := by
   have : b = 97 ∨ b = 98 ∨ b = 99 ∨ b = 100 ∨ b = 101 ∨ b = 102 ∨ b = 103 ∨ b = 104 ∨ b = 105 ∨ b = 106 ∨ b = 107 ∨ b = 108 ∨ b = 109 ∨ b = 110 ∨ b = 111 ∨ b = 112 ∨ b = 113 ∨ b = 114 ∨ b = 115 ∨ b = 116 ∨ b = 117 ∨ b = 118 ∨ b = 119 ∨ b = 120 ∨ b = 121 ∨ b = 122 := by omega
   rcases this with h | h | h | h | h | h | h | h | h | h | h | h | h | h | h | h | h | h | h | h | h | h | h | h | h | h <;> subst h <;> decide
  have hc : cut [b] = ([b], []) := by
   rw [cut_step (by rw [hf]; simp), hf]
   simp [cut_nil]
  have hst : stepP q b = (q, [⟨1, b, []⟩]) := by
   rw [step_take (by omega) (by omega) (.inr hs), hh, List.nil_append, hc]
   cases q
   simp only at hs hh
   subst hs hh
   rfl
  unfold feedP
  rw [hst]
  dsimp only
  rw [ih (fun r hr => hx r (by simp [hr]))]
  rfl
def kE : Em := doAll (newE 2 3) 3 (prE [97, 98, 99, 100])
theorem kE_feed : feedE (newE 2 3) 3 [97, 98, 99, 100] = setP kE p0 := by
 unfold feedE
 rw [show (newE 2 3).p = p0 from rfl, feed_letters p0 rfl rfl [97, 98, 99, 100] (by intro r hr; simp at hr; omega)]
 rfl
theorem kE_row : kE.g.row = 1 := by decide +kernel
theorem kE_col : kE.g.col = 1 := by decide +kernel
theorem kE_0 : lAt kE.g.ls 0 = [⟨97, 0, 0, 1, zeroP⟩, ⟨98, 0, 0, 1, zeroP⟩, ⟨99, 0, 0, 1, zeroP⟩] := by decide +kernel
theorem kE_1 : lAt kE.g.ls 1 = [⟨100, 0, 0, 1, zeroP⟩, ⟨32, 0, 0, 1, zeroP⟩, ⟨32, 0, 0, 1, zeroP⟩] := by decide +kernel
section
open Go.ChangeShapes Go.WideShapes Go.ChangeAt Go.RowKit
theorem elemB : Elem Tryz.prog 34 5 .u8 1 := ⟨Tryz.underlying34, info5⟩
theorem utail_any (r : Int) (w : World) (h0 : 0 ≤ r) (h1 : r ≤ 1114111) : Calls Tryz.prog 166 #[.int .i32 r] w fun e w' => e = .returned (.int .u8 (128 + r % 64)) ∧ w = w' := by
 go_enter Tryz.func166, Tryz.ntmps166
 go_wp2; go_ret
 exact ⟨rfl, rfl⟩
theorem uput_any (r : Int) (h : isSc r = true) (B : Nat) (w wr : World) (v : Value) (bs : List Int) (hown : Own 5 .u8 B w wr v bs) (hl : bs.length ≤ 1000) :
  Calls Tryz.prog 122 #[v, .int .i32 r] wr fun e w' => ∃ v', e = .returned v' ∧ Own 5 .u8 B w w' v' (bs ++ encS r) := by
 obtain ⟨h0, h9, _⟩ := (isSc_iff r).1 h
 clear h
 by_cases h1 : r < 128
 ·have E := hide (encS1 h1)
  have h1' : r ≤ 127 := by omega
  go_enter Tryz.func122, Tryz.ntmps122
  go_wp2_with (at_builtin; refine wpList_push elemB rfl _ _ rfl rfl rfl hown (by omega) (by omega) ?_; intro v' w2 hown2)
  go_ret
  exact ⟨_, rfl, by rw [E.out]; exact hown2⟩
 by_cases h2 : r < 2048
 ·have E := hide (encS2 h1 h2)
  have g1 : 127 < r := by omega
  have g2 : r ≤ 2047 := by omega
  go_enter Tryz.func122, Tryz.ntmps122
  go_wp2_with (first | (go_at_call 166; refine (utail_any _ _ (by omega) (by omega)).mono ?_; rintro e w' ⟨rfl, rfl⟩) | (at_builtin; refine wpList_cat elemB rfl _ _ rfl rfl rfl (hown.alloc _) (Ints.new .u8 wr 5 [_, _]) rfl (fun h => by cases h) (by simp; omega) (by omega) ?_; intro v' w2 hown2))
  go_ret
  exact ⟨_, rfl, by rw [E.out]; exact hown2⟩
 by_cases h3 : r < 65536
 ·have E := hide (encS3 h2 h3)
  have g1 : 127 < r := by omega
  have g2 : 2047 < r := by omega
  have g3 : r ≤ 65535 := by omega
  go_enter Tryz.func122, Tryz.ntmps122
  go_wp2_with (first | (go_at_call 166; refine (utail_any _ _ (by omega) (by omega)).mono ?_; rintro e w' ⟨rfl, rfl⟩) | (at_builtin; refine wpList_cat elemB rfl _ _ rfl rfl rfl (hown.alloc _) (Ints.new .u8 wr 5 [_, _, _]) rfl (fun h => by cases h) (by simp; omega) (by omega) ?_; intro v' w2 hown2))
  go_ret
  exact ⟨_, rfl, by rw [E.out]; exact hown2⟩
 ·have E := hide (encS4 h3)
  have g1 : 127 < r := by omega
  have g2 : 2047 < r := by omega
  have g3 : 65535 < r := by omega
  go_enter Tryz.func122, Tryz.ntmps122
  go_wp2_with (first | (go_at_call 166; refine (utail_any _ _ (by omega) (by omega)).mono ?_; rintro e w' ⟨rfl, rfl⟩) | (at_builtin; refine wpList_cat elemB rfl _ _ rfl rfl rfl (hown.alloc _) (Ints.new .u8 wr 5 [_, _, _, _]) rfl (fun h => by cases h) (by simp; omega) (by omega) ?_; intro v' w2 hown2))
  go_ret
  exact ⟨_, rfl, by rw [E.out]; exact hown2⟩
theorem ubytes_any (a : Option Addr) (len cap : Nat) (zs : List Int) (w : World) (h : Ints .i32 w a zs) (hl : zs.length = len) (hlen : len ≤ 200) :
  Calls Tryz.prog 69 #[.slice a len cap] w (Made 5 .u8 w (encA zs)) := by
 have HL := hide hl; clear hl
 go_enter Tryz.func69, Tryz.ntmps69
 go_wp2
 go_loopw [3, 5, 8] (fun v _ i wr => ∃ k : Nat, k ≤ len ∧ i = .int .i64 k ∧ Own 5 .u8 w.heap.size w wr v (encA (zs.take k)))
  (fun _ _ i _ => len - (intOf i).toNat)
 case atStart => exact ⟨0, Nat.zero_le _, rfl, Own.start (Nat.le_refl _)⟩
 case round =>
  obtain ⟨k, hk, rfl, hown⟩ := hrel
  by_cases hlt : k < len
  ·obtain ⟨b, off, rfl, hc, hb⟩ := h.at (i := k) (by rw [HL.out]; exact hlt)
   obtain ⟨r, hr⟩ := exq (zs.getD k 0)
   have hcx : wr.cell? ⟨b, off + k, none⟩ = some (.int .i32 r) := by rw [← hr]; exact (hown.bel.cell (by exact hb)).trans hc
   have hl1 := encA_len (zs.take k)
   have hl3 : (zs.take k).length ≤ k := List.length_take_le _ _
   have HT : Hid (encA (zs.take (k + 1)) = encA (zs.take k) ++ encS (fix r)) := by
    unfold Hid
    rw [List.take_succ_eq_append_getElem (by rw [HL.out]; exact hlt), encA_append, encA_one]
    rw [List.getD_eq_getElem?_getD, List.getElem?_eq_getElem (by rw [HL.out]; exact hlt)] at hr
    simp at hr
    rw [hr]
   clear hr hc
   by_cases hs : isSc r = true
   ·have HF := hide (fix_of r hs)
    go_wp2_with fail
    refine (scalar_any r wr).mono ?_
    rintro e w1 ⟨rfl, rfl⟩
    rw [hs]
    have HS := hide hs; clear hs; go_wp2_with fail
    refine (uput_any r HS.out w.heap.size w wr _ _ hown (by omega)).mono ?_
    rintro e w1 ⟨v', rfl, hown1⟩
    go_wp2
    go_roundw
    case rel => exact ⟨k + 1, by omega, by go_num, by rw [HT.out, HF.out]; exact hown1⟩
    case measure => simp [intOf]; omega
   ·have HF : Hid (fix r = 65533) := by unfold Hid fix; rw [if_neg hs]
    have hs' : isSc r = false := by simpa using hs
    clear hs; go_wp2_with fail
    refine (scalar_any r wr).mono ?_
    rintro e w1 ⟨rfl, rfl⟩
    rw [hs']
    clear hs'; go_wp2_with fail
    refine (uput_any 65533 (by decide) w.heap.size w wr _ _ hown (by omega)).mono ?_
    rintro e w1 ⟨v', rfl, hown1⟩
    go_wp2
    go_roundw
    case rel => exact ⟨k + 1, by omega, by go_num, by rw [HT.out, HF.out]; exact hown1⟩
    case measure => simp [intOf]; omega
  ·go_wp2
   go_ret
   exact ⟨_, rfl, by rw [List.take_of_length_le (by rw [HL.out]; omega)] at hown; exact hown⟩
def textTo (cs : List Cel) (k : Nat) : List Int := (cs.take k).flatMap (fun c => encA (runesC c))
def textC (cs : List Cel) : List Int := cs.flatMap (fun c => encA (runesC c))
theorem text_all (cs : List Cel) (k : Nat) (h : cs.length ≤ k) : textTo cs k = textC cs := by unfold textTo textC; rw [List.take_of_length_le h]
theorem text_next (cs : List Cel) (k : Nat) (h : k < cs.length) : textTo cs (k + 1) = textTo cs k ++ encA (runesC (cAt cs k)) := by
 unfold textTo; rw [take_cAt cs k h]; simp
theorem text_len (cs : List Cel) (k : Nat) : (textTo cs k).length ≤ 12 * k := by
 unfold textTo
 have h : ∀ l : List Cel, (l.flatMap (fun c => encA (runesC c))).length ≤ 12 * l.length := by
  intro l
  induction l with
  | nil => simp
  | cons c l ih =>
   have h1 := encA_len (runesC c)
   have h2 := runes_len c
   simp only [List.flatMap_cons, List.length_append, List.length_cons]
   omega
 have := h (cs.take k)
 rw [List.length_take] at this
 omega
theorem text_byte (cs : List Cel) : Byte (textC cs) := by
 intro x hx
 obtain ⟨c, _, hc⟩ := List.mem_flatMap.1 hx
 exact encA_byte _ x hc
def Str (s : ByteArray) (w : World) (e : Ending) (w' : World) : Prop := e = .returned (.string s) ∧ Below w.heap.size w w'
theorem text_any (A : Option Addr) (n c : Nat) (cs : List Cel) (w : World) (h : Cels .i32 w A cs) (hn : cs.length = n) (hl : n ≤ 1000) : Calls Tryz.prog 36 #[.slice A n c] w (Str (strOf (textC cs)) w) := by
 have HC := hide h; have HN := hide hn; clear h hn
 go_enter Tryz.func36, Tryz.ntmps36
 go_wp2
 go_loopw [3, 5, 8] (fun v _ i wr => ∃ k : Nat, k ≤ n ∧ i = .int .i64 k ∧ Own 5 .u8 w.heap.size w wr v (textTo cs k)) (fun _ _ i _ => n - (intOf i).toNat)
 case atStart => exact ⟨0, Nat.zero_le _, rfl, Own.start (Nat.le_refl _)⟩
 case round =>
  obtain ⟨k, hk, rfl, hown⟩ := hrel
  have HV := hide hown; clear hown
  by_cases hlt : k < n
  ·obtain ⟨b1, o1, rfl, l1, -⟩ := HC.out.at (i := k) (by rw [HN.out]; exact hlt)
   have HT := hide (text_next cs k (by rw [HN.out]; exact hlt))
   have HTL := hide (text_len cs k)
   obtain ⟨⟨r, x, y, z, ⟨f, g, b⟩⟩, hc⟩ : ∃ q, cAt cs k = q := ⟨_, rfl⟩
   obtain ⟨a0, a1, a2, a3, a4, a5, a6, -⟩ := (HC.out.below HV.out.bel).sevenC k (by rw [HN.out]; exact hlt) hc
   rw [hc] at HT
   clear hc
   obtain ⟨Z, hZ⟩ := exq (runesC ⟨r, x, y, z, ⟨f, g, b⟩⟩)
   have hzl : Z.length ≤ 3 := by rw [← hZ]; exact runes_len _
   rw [hZ] at HT
   have HZ := hide hZ; clear hZ
   obtain ⟨W1, hW1⟩ := exq (wr.alloc (.cells #[.int .i32 r, .int .i32 x, .int .i32 y, .int .u8 z, .int .u8 f, .int .u8 g, .int .u8 b] 73))
   have HV1 : Hid (Own 5 .u8 w.heap.size w W1 u3 (textTo cs k)) := by unfold Hid; rw [← hW1]; exact HV.out.alloc _
   have HW1 := hide hW1; clear hW1; go_wp2_with fail
   rw [HW1.out]
   refine (runes_any r x y z f g b W1).mono ?_
   rintro e w2 ⟨v2, rfl, ho2⟩
   rw [HZ.out] at ho2
   obtain ⟨A2, c2, rfl, hi2, -⟩ := ho2.form2
   have HI2 := hide hi2
   have HV2 := hide (HV1.out.later ho2.bel)
   clear ho2 hi2 a0 a1 a2 a3 a4 a5 a6; go_wp2_with fail
   refine (ubytes_any A2 Z.length c2 Z w2 HI2.out rfl (by omega)).mono ?_
   rintro e w3 ⟨v3, rfl, ho3⟩
   have hel := encA_len Z
   obtain ⟨Y, hY⟩ := exq (encA Z)
   rw [hY] at ho3 HT hel
   obtain ⟨A3, c3, rfl, hi3, -, hz3, -⟩ := ho3.form2
   have HI3 := hide hi3; have HZ3 := hide hz3
   have HV3 := hide (HV2.out.later ho3.bel)
   clear ho3 hi3 hz3 hY
   go_wp2_with (at_builtin; refine stopw ?_)
   unfold Hid
   refine wpList_cat elemB rfl _ _ rfl rfl rfl HV3.out HI3.out rfl HZ3.out (by have := HTL.out; omega) (by omega) ?_
   intro v' wn hn1
   rw [← HT.out] at hn1
   have HV' := hide hn1
   clear hn1; go_wp2
   go_roundw
   case rel => exact ⟨k + 1, by omega, by go_num, HV'.out⟩
   case measure => simp [intOf]; omega
  ·obtain ⟨A3, c3, hv, hi3, -⟩ := HV.out.form2
   rw [text_all cs k (by rw [HN.out]; omega)] at hi3 hv
   subst hv
   have hrun := run_strOf (P := Tryz.prog) wr 34 9 5 Tryz.underlying34 Tryz.underlying5 Tryz.underlying9 A3 c3 (textC cs) hi3 (text_byte cs)
   obtain ⟨S, hS⟩ := exq (strOf (textC cs))
   rw [hS] at hrun
   have HS := hide hS; have HBL := hide HV.out.bel; clear hS hi3 HV
   generalize (textC cs).length = N at hrun
   go_wp2; go_ret
   exact ⟨by rw [HS.out]; rfl, HBL.out⟩
theorem eknown_any (w : World) (hS : Spans w) : Calls Tryz.prog 11 #[] w (Said true w) := by
 have HNEW : Hid (Calls Tryz.prog 9 #[.int .i64 2, .int .i64 3] w fun x w' => ∃ b L, x = .returned (.tuple #[.pointer (some ⟨b.E, 0, none⟩), .int .i64 0]) ∧ MadeE 2 3 (newE 2 3) w b L w') := enew_yes 2 3 (by omega) (by omega) (by omega) (by omega) w hS
 have HT0 : Hid (strOf (textC (lAt kE.g.ls 0)) = ⟨#[97, 98, 99]⟩) := by unfold Hid; rw [kE_0]; decide +kernel
 have HT1 : Hid (strOf (textC (lAt kE.g.ls 1)) = ⟨#[100, 32, 32]⟩) := by unfold Hid; rw [kE_1]; decide +kernel
 have s0 : ∀ w : World, (binOp .eql 9 (.string ⟨#[97, 98, 99]⟩) (.string ⟨#[97, 98, 99]⟩)).run Tryz.prog w = .ok (.bool true) w := fun _ => by kernel_rfl
 have s1 : ∀ w : World, (binOp .eql 9 (.string ⟨#[100, 32, 32]⟩) (.string ⟨#[100, 32, 32]⟩)).run Tryz.prog w = .ok (.bool true) w := fun _ => by kernel_rfl
 have kc := fun (w : World) (C : Array Value) (n c : Nat) => Lib.run_convert_bytes_const (P := Tryz.prog) w 34 5 C n c Tryz.underlying34 Tryz.underlying5
 clear hS
 go_enter Tryz.func11, Tryz.ntmps11
 go_wp2_with fail
 refine HNEW.out.mono ?_
 rintro x w1 ⟨b, L, rfl, hm⟩
 obtain ⟨hE, hB, hL⟩ := hm
 obtain ⟨q, hq⟩ := exq (w1.heap.size)
 obtain ⟨W0, hW0⟩ := exq (w1.alloc (.cells #[.int .u8 97, .int .u8 98, .int .u8 99, .int .u8 100] 5 (4, 5)))
 have hb0 : Below w1.heap.size w1 W0 := by rw [← hW0]; exact new1W _ _
 have HI : Hid (Ints .u8 W0 (some ⟨q, 0, none⟩) [97, 98, 99, 100]) := by unfold Hid; rw [← hW0, ← hq]; exact Ints.newF .u8 w1 5 (4, 5) [97, 98, 99, 100]
 have HNQ : Hid (q ∉ b.l L) := by unfold Hid; intro hx; have := hE.lt _ hx; omega
 have HE0 := hide (hE.later hb0)
 have HB0 := hide (hB.trans (hb0.mono hB.size))
 have hlw : Low w.heap.size b L := hL
 have HLW := hide hlw; have HW0 := hide hW0; have HQ := hide hq; clear hE hB hL hb0 hW0 hq hlw; go_wp2_with fail
 rw [HW0.out, HQ.out]
 refine (efeed_new HE0.out q 0 4 4 [97, 98, 99, 100] HI.out HNQ.out rfl (by intro x hx; simp at hx; omega) (by omega)).mono ?_
 rintro x w2 ⟨rfl, L2, ha⟩
 rw [kE_feed] at ha
 have HB2 : Hid (Below w.heap.size w w2) := ha.ch.below HB0.out HB0.out.size HLW.out
 have HE2 := hide ha.emu; clear ha HE0; go_wp2_with fail
 refine (egrid_any HE2.out).mono ?_
 rintro x w3 ⟨G, L3, M, rfl, hg, hb, -⟩
 have HG : Hid (Grd w3 G L3 M 2 3 kE.g) := hg
 have HB3 := hide (HB2.out.trans (hb.mono HB2.out.size))
 clear hg hb; go_wp2_with fail
 refine (gline_any HG.out 0 (by unfold hasG; omega) (by omega)).mono ?_
 rintro x w4 ⟨v4, rfl, ho4⟩
 obtain ⟨A4, c4, rfl, hc4, -, -, -⟩ := ho4.form
 have HC4 : Hid (Cels .i32 w4 A4 (lAt kE.g.ls 0)) := hc4
 have HB4 : Hid (Below w.heap.size w w4) := HB3.out.trans (ho4.bel.mono HB3.out.size)
 have HG4 := hide (HG.out.later ho4.bel)
 clear hc4 ho4
 rw [show (lAt kE.g.ls (0 : Int).toNat).length = 3 by rw [show ((0 : Int).toNat) = 0 from rfl, kE_0]; rfl]
 go_wp2_with fail
 refine (text_any A4 3 c4 (lAt kE.g.ls 0) _ HC4.out (by rw [kE_0]; rfl) (by omega)).mono ?_
 rintro x w5 ⟨rfl, hb⟩
 rw [HT0.out]
 have HB4b : Hid (Below w.heap.size w w5) := HB4.out.trans (hb.mono HB4.out.size)
 have HG4b := hide (HG4.out.later hb)
 clear hb; go_wp2_with fail
 refine (gline_any HG4b.out 1 (by unfold hasG; omega) (by omega)).mono ?_
 rintro x w6 ⟨v6, rfl, ho6⟩
 obtain ⟨A6, c6, rfl, hc6, -, -, -⟩ := ho6.form
 have HC6 : Hid (Cels .i32 w6 A6 (lAt kE.g.ls 1)) := hc6
 have HB6 : Hid (Below w.heap.size w w6) := HB4b.out.trans (ho6.bel.mono HB4b.out.size)
 have HG6 := hide (HG4b.out.later ho6.bel)
 clear hc6 ho6
 rw [show (lAt kE.g.ls (1 : Int).toNat).length = 3 by rw [show ((1 : Int).toNat) = 1 from rfl, kE_1]; rfl]
 go_wp2_with fail
 refine (text_any A6 3 c6 (lAt kE.g.ls 1) _ HC6.out (by rw [kE_1]; rfl) (by omega)).mono ?_
 rintro x w7 ⟨rfl, hb⟩
 rw [HT1.out]
 have HB6b : Hid (Below w.heap.size w w7) := HB6.out.trans (hb.mono HB6.out.size)
 have HG6b := hide (HG6.out.later hb)
 clear hb; go_wp2_with fail
 refine (row_any HG6b.out).mono ?_
 rintro x w8 ⟨rfl, rfl⟩
 rw [kE_row]
 go_wp2_with fail
 refine (col_any HG6b.out).mono ?_
 rintro x w8 ⟨rfl, rfl⟩
 rw [kE_col]
 go_wp2; go_ret
 exact ⟨rfl, HB6b.out⟩
def smallE (n : Int) : Int := if 20 < n ∧ n ≤ 512 then 20 else n
theorem esmall_any (n : Int) (w : World) : Calls Tryz.prog 8 #[.int .i64 n] w fun e w' => e = .returned (.int .i64 (smallE n)) ∧ w = w' := by
 by_cases h1 : 20 < n
 ·by_cases h2 : n ≤ 512
  ·have HS : Hid (smallE n = 20) := by unfold Hid smallE; rw [if_pos ⟨h1, h2⟩]
   go_enter Tryz.func8, Tryz.ntmps8
   go_wp2; go_ret
   exact ⟨by rw [HS.out]; rfl, rfl⟩
  ·have HS : Hid (smallE n = n) := by unfold Hid smallE; rw [if_neg (fun q => h2 q.2)]
   go_enter Tryz.func8, Tryz.ntmps8
   go_wp2; go_ret
   exact ⟨by rw [HS.out]; rfl, rfl⟩
 ·have HS : Hid (smallE n = n) := by unfold Hid smallE; rw [if_neg (fun q => h1 q.1)]
  go_enter Tryz.func8, Tryz.ntmps8
  go_wp2; go_ret
  exact ⟨by rw [HS.out]; rfl, rfl⟩
theorem sizeE {r c : Int} (h : sizeN r c) : ∃ R C : Nat, r = (R : Int) ∧ c = (C : Int) ∧ 1 ≤ R ∧ R ≤ 512 ∧ 1 ≤ C ∧ C ≤ 512 := by
 obtain ⟨⟨h1, h2⟩, h3, h4⟩ := h
 exact ⟨r.toNat, c.toNat, by omega, by omega, by omega, by omega, by omega, by omega⟩
structure Two (w0 w : World) (b1 : Bl) (L1 : Nat) (b2 : Bl) (L2 R C : Nat) (e1 e2 : Em) : Prop where
 e : Emu w b1 L1 R C e1
 d : Emu w b2 L2 R C e2
 ap : ∀ x ∈ b2.l L2, x ∉ b1.l L1
 l1 : Low w0.heap.size b1 L1
 l2 : Low w0.heap.size b2 L2
 bel : Below w0.heap.size w0 w
 pos : 0 < w0.heap.size
section
variable {w0 w w' : World} {b1 b2 : Bl} {L1 L2 L R C : Nat} {e1 e2 e' : Em}
theorem Two.later (h : Two w0 w b1 L1 b2 L2 R C e1 e2) (hb : Below w.heap.size w w') : Two w0 w' b1 L1 b2 L2 R C e1 e2 := ⟨h.e.later hb, h.d.later hb, h.ap, h.l1, h.l2, h.bel.trans (hb.mono h.bel.size), h.pos⟩
theorem Two.first (h : Two w0 w b1 L1 b2 L2 R C e1 e2) (k : At b1 w L1 w' L R C e') : Two w0 w' b1 L b2 L2 R C e' e2 :=
 ⟨k.emu, h.d.far k.ch h.ap h.e.no0, fun x hx hy => by
  rcases near_mem k.near x hy with q | q
  ·exact h.ap x hx q
  ·have := h.d.lt x hx; omega, h.l1.at k h.bel.size, h.l2, k.ch.below h.bel h.bel.size h.l1, h.pos⟩
end
theorem IntsT.old {t : TypeId} {k : IntKind} {w w2 : World} {A : Option Addr} {zs : List Int} (h : Ints k w A zs) (hb : Below w.heap.size w w2) : IntsT w.heap.size t k w2 A zs := by
 by_cases h0 : zs = []
 ·exact .inl h0
 ·have hl : 0 < zs.length := List.length_pos_iff.2 h0
  have h2 := h.below hb
  obtain ⟨b, off, ha, hc, hlt⟩ := h.at (i := 0) hl
  rcases h2 with q | ⟨b2, off2, ha2, hc2⟩
  ·rw [q] at hl; simp at hl
  ·rw [ha] at ha2
   cases ha2
   exact .inr ⟨b, off, ha, .inl hlt, hc2⟩
def DoesR (w : World) (b : Bl) (R C q : Nat) (wr : World) (ej : Em) (L1 : Nat) (A5 : Option Addr) (cap5 : Nat) (N5 : Option Addr) (ln5 cn5 : Nat) (H5 : Option Addr) (lh5 ch5 : Nat) : Prop :=
 Emu wr b L1 R C ej ∧ Low w.heap.size b L1 ∧ Whole wr q 40 [.slice A5 R cap5, .int .i64 ej.g.row, .int .i64 ej.g.col, .int .i64 ej.p.st, .slice N5 ln5 cn5, .slice H5 lh5 ch5, .int .u8 ej.pen.f, .int .u8 ej.pen.g, .int .u8 ej.pen.b, .bool ej.wrap] ∧ Doc wr ⟨A5, cap5, N5, ln5, cn5, H5, lh5, ch5⟩ ej ∧ Below w.heap.size w wr
end
section
open Go.ChangeShapes Go.WideShapes Go.ChangeAt Go.RowKit Go.Joins
structure EvIn (w : World) (k r : Int) (A : Option Addr) (n c : Nat) (zs : List Int) : Prop where
 row : IsRow .i64 w A n c zs
 r0 : -2147483648 ≤ r
 r1 : r ≤ 2147483647
def EvsIn (w : World) (a : Option Addr) (len : Nat) : Prop := len = 0 ∨ ∃ (b off : Nat), a = some ⟨b, off, none⟩ ∧ ∀ i, i < len → ∃ k r A n c zs, w.cell? ⟨b, off + i * 3, none⟩ = some (.int .i64 k) ∧ w.cell? ⟨b, off + i * 3 + 1, none⟩ = some (.int .i32 r) ∧ w.cell? ⟨b, off + i * 3 + 2, none⟩ = some (.slice A n c) ∧ EvIn w k r A n c zs
theorem structEv : ∃ f0 f1 f2 : Field, Tryz.prog.underlying 56 = some (.struct #[f0, f1, f2]) ∧ (f0.type = 3 ∧ f1.type = 21 ∧ f2.type = 33) ∧ (f0.offset = 0 ∧ f1.offset = 1 ∧ f2.offset = 2) :=
 ⟨_, _, _, Tryz.underlying56, ⟨rfl, rfl, rfl⟩, ⟨rfl, rfl, rfl⟩⟩
theorem sizeEv : Tryz.prog.cellsOf 56 = 3 := by kernel_rfl
theorem sizeInts : Tryz.prog.cellsOf 33 = 1 := by kernel_rfl
theorem sizeBytes : Tryz.prog.cellsOf 34 = 1 := by kernel_rfl
theorem sizeI64 : Tryz.prog.cellsOf 3 = 1 := by kernel_rfl
theorem sizeI32 : Tryz.prog.cellsOf 21 = 1 := by kernel_rfl
theorem i32_bd {a : Int} (h : (Lit.int .i32 a).wf = true) : -2147483648 ≤ a ∧ a ≤ 2147483647 := by
 simpa [Lit.wf, IntKind.min, IntKind.max, IntKind.signed, IntKind.bits] using h
section
variable {H : Type} {enc : TypeId × Value → H} {w : World} {base : Nat} {held : Bool}
theorem cells_ints {fuel : Nat} {v : Value} {x : DataW H × List MemPlace} (h : DataW.trod enc Tryz.prog w base (fun _ => true) held fuel 33 [v] = some x) : ∃ a len cap zs, v = .slice a len cap ∧ IsRow .i64 w a len cap zs := by
 rcases open_ints Tryz.underlying33 Tryz.underlying3 (by kernel_rfl) h with ⟨hcs, _⟩ | ⟨x, l, c, zs, hcs, _, hl, hm, hz, _, hcell, hwz⟩
 ·obtain rfl : v = .slice none 0 0 := by simpa using hcs
  exact ⟨none, 0, 0, [], rfl, .inl ⟨rfl, rfl, rfl, rfl⟩⟩
 ·obtain rfl : v = .slice (some x) l c := by simpa using hcs
  exact ⟨some x, l, c, zs, rfl, .inr ⟨_, rfl, hl, hm, by simpa using hz, hcell, hwz⟩⟩
theorem cells_bytes {fuel : Nat} {v : Value} {x : DataW H × List MemPlace} (h : DataW.trod enc Tryz.prog w base (fun _ => true) held fuel 34 [v] = some x) : ∃ a len cap zs, v = .slice a len cap ∧ IsRow .u8 w a len cap zs := by
 rcases open_ints Tryz.underlying34 Tryz.underlying5 (by kernel_rfl) h with ⟨hcs, _⟩ | ⟨x, l, c, zs, hcs, _, hl, hm, hz, _, hcell, hwz⟩
 ·obtain rfl : v = .slice none 0 0 := by simpa using hcs
  exact ⟨none, 0, 0, [], rfl, .inl ⟨rfl, rfl, rfl, rfl⟩⟩
 ·obtain rfl : v = .slice (some x) l c := by simpa using hcs
  exact ⟨some x, l, c, zs, rfl, .inr ⟨_, rfl, hl, hm, by simpa using hz, hcell, hwz⟩⟩
theorem cells_ev {fuel : Nat} {cs : List Value} {x : DataW H × List MemPlace} (hlen : cs.length = 3) (h : DataW.trod enc Tryz.prog w base (fun _ => true) held fuel 56 cs = some x) :
  ∃ k r A n c zs, cs = [.int .i64 k, .int .i32 r, .slice A n c] ∧ EvIn w k r A n c zs := by
 obtain ⟨c0, c1, c2, rfl⟩ : ∃ c0 c1 c2, cs = [c0, c1, c2] := by
  match cs, hlen with
  | [c0, c1, c2], _ => exact ⟨c0, c1, c2, rfl⟩
 obtain ⟨f0, f1, f2, hu, ⟨e0, e1, e2⟩, o0, o1, o2⟩ := structEv
 obtain ⟨xs, n, _, rfl, hl, hxl, hf⟩ := DataW.trod_struct hu h
 match xs, hxl with
 | [y0, y1, y2], _ =>
  have g0 := hf 0 f0 rfl
  have g1 := hf 1 f1 rfl
  have g2 := hf 2 f2 rfl
  rw [e0, o0, sizeI64] at g0
  rw [e1, o1, sizeI32] at g1
  rw [e2, o2, sizeInts] at g2
  simp only [List.drop_zero, List.drop_succ_cons, List.take_succ_cons, List.take_zero, List.getElem?_cons_zero, List.getElem?_cons_succ] at g0 g1 g2
  obtain ⟨n0, k0, r0, w0⟩ := DataW.trod_int Tryz.underlying3 g0
  obtain ⟨n1, k1, r1, w1⟩ := DataW.trod_int Tryz.underlying21 g1
  obtain ⟨A, len, cap, zs, k2, w2⟩ := cells_ints g2
  simp only [List.cons.injEq, and_true] at k0 k1
  subst k0 k1 k2
  exact ⟨n0, n1, A, len, cap, zs, rfl, w2, (i32_bd w1).1, (i32_bd w1).2⟩
theorem open_events {a : Option Addr} {len cap : Nat} {x : DataW H} {p : List MemPlace} (h : DataW.Trod enc Tryz.prog w base (fun _ => true) held 54 (.slice a len cap) x p) : EvsIn w a len ∧ len ≤ cap ∧ cap ≤ maxLen ∧ (a = none → cap = 0) := by
 obtain ⟨fuel, hf⟩ := h
 rcases Deep.open_slice Tryz.underlying54 hf with ⟨hcs, _⟩ | ⟨ad, l, c, m, n, D, Pl, hcs, hb, hl, hm, hmm, _, hel⟩
 ·simp [Value.cells] at hcs
  obtain ⟨rfl, rfl, rfl⟩ := hcs
  exact ⟨.inl rfl, Nat.le_refl _, Nat.zero_le _, fun _ => rfl⟩
 ·simp [Value.cells] at hcs
  obtain ⟨rfl, rfl, rfl⟩ := hcs
  refine ⟨?_, hl, by first | exact hm | exact hb | omega, (fun h => by cases h)⟩
  have hlm : len ≤ m := by rw [hmm]; split <;> omega
  rw [sizeEv] at hel
  have each : ∀ i, i < len → ∃ k r A n c zs, EvIn w k r A n c zs ∧ ∀ d v, ([.int .i64 k, .int .i32 r, .slice A n c] : List Value)[d]? = some v → w.cell? ((ad.add (i * 3)).add d) = some v := by
   intro i hi
   obtain ⟨cs', h1, h2⟩ := hel i (by omega)
   obtain ⟨-, h3, h4⟩ := World.cells?_some h1
   obtain ⟨k, r, A, n, c, zs, e, ok⟩ := cells_ev h3 h2
   refine ⟨k, r, A, n, c, zs, ok, fun d v hv => ?_⟩
   have hd : d < 3 := (List.getElem?_eq_some_iff.1 hv).1
   rw [h4 d hd, e]
   exact hv
  by_cases h0 : len = 0
  ·exact .inl h0
  ·obtain ⟨_, _, _, _, _, _, _, hc0⟩ := each 0 (by omega)
   have hs : ad.spot = none := by
    have := World.cell?_spot (hc0 0 _ rfl)
    simpa [Addr.add] using this
   obtain ⟨b, off, spot⟩ := ad
   simp only at hs
   subst hs
   have hadd : ∀ i j, ((⟨b, off, none⟩ : Addr).add i).add j = ⟨b, off + i + j, none⟩ := by
    intro i j
    have e1 : ∀ (o q : Nat), (⟨b, o, none⟩ : Addr).add q = ⟨b, o + q, none⟩ := fun o q => by unfold Addr.add; split <;> simp_all
    rw [e1, e1]
   refine .inr ⟨b, off, rfl, fun i hi => ?_⟩
   obtain ⟨k, r, A, n, c, zs, ok, hc⟩ := each i hi
   have h0 := hc 0 _ rfl
   have h1 := hc 1 _ rfl
   have h2 := hc 2 _ rfl
   rw [hadd] at h0 h1 h2
   exact ⟨k, r, A, n, c, zs, h0, h1, h2, ok⟩
end
end
end Go.Proofs.YtkijclgbpbhglaaGreatDoor
