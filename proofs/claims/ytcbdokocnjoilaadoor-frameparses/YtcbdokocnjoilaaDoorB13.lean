/-
  Contracts and plain mathematics of RnRef4.
-/
import Derived.Test.YtcbdokocnjoilaaDoorB10
import Derived.Test.YtcbdokocnjoilaaDoorB7
import Derived.Test.YtcbdokocnjoilaaDoorB12
import Derived.Test.YtcbdokocnjoilaaDoorB9
import Derived.Test.YtcbdokocnjoilaaDoorB4
namespace Go.Proofs.YtcbdokocnjoilaaDoor
set_option maxRecDepth 100000
set_option linter.unusedVariables false
set_option maxHeartbeats 8000000
section
open Go.ChangeShapes Go.WideShapes Go.ChangeAt Go.RowKit
/-- 'append(row, c)', c in a block of its own. -/
theorem wpList_pushCG {P : Program} {S e : TypeId} {k : IntKind} {bytes : Nat} (E : ElemC P S e k bytes) {ops : Array Oper} {rest : List Oper} {o : Oper} {a : Act} {Q : Exit → Act → World → Prop} {B : Nat} {w wr : World} {v : Value} {cs : List Cel} (c : Cel)
    (hgd : Region.wanted o (yielded ops a.tmps) = true) (s y : Operand) (ho : o.op = .call { callee := .builtin .append, args := #[s, y], argTypes := #[S, S] })
    (hs : a.eval s = v) (hy : a.eval y = .slice (some ⟨wr.heap.size, 0, none⟩) 1 1) (hown : OwnC e k B w wr v cs) (hlen : cs.length ≤ 1000000) (hby : bytes ≤ 1000)
    (h : ∀ v' w1, OwnC e k B w w1 v' (cs ++ [c]) → (wr.alloc (.cells #[.int k c.r, .int k c.m, .int k c.n, .int .u8 (c.w : Int), .int .u8 (c.p.f : Int), .int .u8 (c.p.g : Int), .int .u8 (c.p.b : Int)] e)).grownBy w1 v.ownBlock → wpList P ops Q rest (a.put o.dst v') w1) : wpList P ops Q (o :: rest) a (wr.alloc (.cells #[.int k c.r, .int k c.m, .int k c.n, .int .u8 (c.w : Int), .int .u8 (c.p.f : Int), .int .u8 (c.p.g : Int), .int .u8 (c.p.b : Int)] e)) := by
  obtain ⟨i0, hi, hz0, hz1, hz2⟩ := info_parts E.info
  have hb : (cs.length + 1) * bytes ≤ 1000001 * 1000 := Nat.mul_le_mul (by omega) hby
  refine wpList_want hgd fun K hK => ?_
  refine wp_append_own _ s y S ho B e i0 _ 7 bytes E.under hi hz0 hz1 hz2 rfl (by decide) v cs.length _ hs (hown.alloc _).own ⟨wr.heap.size, 0, none⟩ 1 1 (cellL k c) hy rfl (cells_new7 _ (cellL k c) e) (by have := flatC_one k [c]; simpa [flatC] using this)
    (by unfold maxLen; omega) (by omega) (by have := hown.le; simp; omega) ?_
  intro v' w1 h1 hg _
  exact hK _ _ (h v' w1 ((hown.alloc _).grown (ns := [c]) (by simpa [flatC] using h1) hg) hg)
section
variable {P : Program} {ops : Array Oper} {Q : Exit → Act → World → Prop} {S : World → Prop}
theorem chainL_skip {i : Nat} {r : List (Nat × Nat)} {o : Oper} {a : Act} {w : World} (ho : ops[i]? = some o) (hw : Region.wanted o (yielded ops a.tmps) = false)
    (h : wpChainL P ops Q S r (a.put o.dst undef) w) : wpChainL P ops Q S ((0, i) :: r) a w := by
  simp only [wpChainL, ho]
  exact ⟨undef, Or.inr ⟨hw, rfl⟩, h⟩
end
theorem pen_t {xs : List Int} {s : Nat × Int} (hb : Byte xs) (ht : s.1 ≤ xs.length) : (penD xs s).1.1 ≤ xs.length := by
  have := nAt_le (t := s.1) s.2 hb ht
  unfold penD numD
  split <;> exact this
theorem marks_t {xs : List Int} {s : Nat × Int} (k : Int) (hb : Byte xs) (ht : s.1 ≤ xs.length) : (marksD xs s k).1.1 ≤ xs.length := by
  have t1 := up_t (most := 1114111) (er := 5) hb ht
  have t2 := up_t (most := 1114111) (er := 5) hb t1
  unfold marksD
  split
  · exact ht
  · split
    · exact t1
    · exact t2
theorem one_t {xs : List Int} {s : Nat × Int} (hb : Byte xs) (ht : s.1 ≤ xs.length) : (oneD xs s).1.1 ≤ xs.length := by
  have t1 := pen_t hb (up_t (most := 2) (er := 5) hb ht)
  have t2 := up_t (most := 1114111) (er := 5) hb t1
  have t3 := up_t (most := 2) (er := 6) hb t2
  have t4 := fun k => marks_t k hb t3
  unfold oneD
  simp only
  split
  · exact t1
  · exact t4 _
theorem one_w {xs : List Int} {s : Nat × Int} (hb : Byte xs) : (oneD xs s).2.1.w ≤ 2 := by
  obtain ⟨v0, v1⟩ := upD_bd (xs := xs) (s := s) (most := 2) (er := 5) hb (by omega)
  unfold oneD
  simp only
  split
  · simp
  · simp only; omega
theorem step_t {xs : List Int} {i : Nat} {x : (Nat × Int) × List Cel} (hb : Byte xs) (ht : x.1.1 ≤ xs.length) : (stepD xs i x).1.1 ≤ xs.length := by
  have t1 := up_t (most := 512 - (x.2.length : Int)) (er := 6) hb ht
  have t2 : (if (upD xs x.1 (512 - (x.2.length : Int)) 6).1.2 = 0 ∧ (upD xs x.1 (512 - (x.2.length : Int)) 6).2 = 0 then ((upD xs x.1 (512 - (x.2.length : Int)) 6).1.1, (3 : Int)) else (upD xs x.1 (512 - (x.2.length : Int)) 6).1).1 ≤ xs.length := by split <;> exact t1
  have t3 := one_t hb t2
  obtain ⟨st1, hst⟩ : ∃ z, (if (upD xs x.1 (512 - (x.2.length : Int)) 6).1.2 = 0 ∧ (upD xs x.1 (512 - (x.2.length : Int)) 6).2 = 0 then ((upD xs x.1 (512 - (x.2.length : Int)) 6).1.1, (3 : Int)) else (upD xs x.1 (512 - (x.2.length : Int)) 6).1) = z := ⟨_, rfl⟩
  rw [hst] at t3
  unfold stepD
  simp only [hst]
  split <;> exact t3
theorem loop_t {xs : List Int} {s : Nat × Int} (hb : Byte xs) (ht : s.1 ≤ xs.length) : ∀ j, (loopD xs s j).1.1 ≤ xs.length
  | 0 => ht
  | j + 1 => by
    have ih := loop_t hb ht j
    show (if (loopD xs s j).1.2 = 0 then stepD xs j (loopD xs s j) else loopD xs s j).1.1 ≤ xs.length
    split
    · exact step_t hb ih
    · exact ih
theorem OwnC.low {k : IntKind} {e : TypeId} {B q : Nat} {w wr : World} {v : Value} {cs : List Cel} (h : OwnC e k B w wr v cs) (hq : q < B) (i : Nat) (x : Value) : OwnC e k B (wr.setCell ⟨q, i, none⟩ x) (wr.setCell ⟨q, i, none⟩ x) v cs := h.keepO (Only.put i x) hq
theorem rowC_same' {e : TypeId} {k : IntKind} {B : Nat} {w wr w1 : World} {v : Value} {cs : List Cel} (h : OwnC e k B w wr v cs) (hg : wr.grownBy w1 v.ownBlock) : ∀ (b : Nat) (cur : Array Value) (t : TypeId), t ≠ e → wr.heap[b]? = some (Obj.cells cur t (0, 0)) → w1.heap[b]? = wr.heap[b]? := by
  intro b cur t ht hb
  refine World.grownBy.block hg b (Array.getElem?_eq_some_iff.1 hb).1 ?_
  intro e
  rcases h.own.2 with ⟨rfl, _⟩ | ⟨g, cap, cur', rfl, _, hh, _⟩
  · simp [Value.ownBlock] at e
  · obtain rfl : b = g := by simpa [Value.ownBlock] using e
    rw [hh] at hb
    simp only [Option.some.injEq, Obj.cells.injEq] at hb
    exact ht hb.2.1.symm
/-- What lies in the blocks of the document's Take. -/
structure Tn (w W : World) (a : Option Addr) (n c : Nat) (T : Nat) (E : Int) (v : Value) (out : List Cel) : Prop where
  r1 : Whole W w.heap.size 52 [.slice a n c, .int .i64 (T : Int), .int .i64 E]
  r2 : Whole W (w.heap.size + 1) 52 [.slice none 0 0, .int .i64 0, .int .i64 0]
  ov : OwnC 118 .i64 (w.heap.size + 1 + 1) W W v out
  bel : Below w.heap.size w W
  nz : out = [] → v = .slice none 0 0
section
variable {w W W' : World} {a : Option Addr} {n c T : Nat} {E : Int} {v : Value} {out : List Cel}
theorem Tn.later (h : Tn w W a n c T E v out) (hb : Below W.heap.size W W') : Tn w W' a n c T E v out := ⟨h.r1.later hb, h.r2.later hb, (h.ov.later hb).now, h.bel.trans (hb.mono h.bel.size), h.nz⟩
theorem Tn.putR (h : Tn w W a n c T E v out) (T' : Nat) (E' : Int) : Tn w (((W.setCell ⟨w.heap.size, 0, none⟩ (.slice a n c)).setCell ⟨w.heap.size, 1, none⟩ (.int .i64 (T' : Int))).setCell ⟨w.heap.size, 2, none⟩ (.int .i64 E')) a n c T' E' v out :=
  ⟨((h.r1.put 0 _).put 1 _).put 2 _, whole_put (whole_put (whole_put h.r2 (by omega) _) (by omega) _) (by omega) _, ((h.ov.low (q := w.heap.size) (by omega) 0 _).low (q := w.heap.size) (by omega) 1 _).low (q := w.heap.size) (by omega) 2 _,
    ((h.bel.setCell (p := ⟨w.heap.size, 0, none⟩) (Nat.le_refl _) _).setCell (p := ⟨w.heap.size, 1, none⟩) (Nat.le_refl _) _).setCell (p := ⟨w.heap.size, 2, none⟩) (Nat.le_refl _) _, h.nz⟩
theorem Tn.putE (h : Tn w W a n c T E v out) (E' : Int) : Tn w (W.setCell ⟨w.heap.size, 2, none⟩ (.int .i64 E')) a n c T E' v out :=
  ⟨h.r1.put 2 _, whole_put h.r2 (by omega) _, h.ov.low (q := w.heap.size) (by omega) 2 _, h.bel.setCell (p := ⟨w.heap.size, 2, none⟩) (Nat.le_refl _) _, h.nz⟩
theorem Tn.grow {v' : Value} {c0 : Cel} (h : Tn w W a n c T E v out) (ho : OwnC 118 .i64 (w.heap.size + 1 + 1) W W' v' (out ++ [c0])) (hg : ∀ (b : Nat) (cur : Array Value) (t : TypeId), t ≠ 118 → W.heap[b]? = some (Obj.cells cur t (0, 0)) → W'.heap[b]? = W.heap[b]?) : Tn w W' a n c T E v' (out ++ [c0]) :=
  ⟨(hg _ _ _ (by decide) h.r1).trans h.r1, (hg _ _ _ (by decide) h.r2).trans h.r2, ho.now, h.bel.trans (ho.bel.mono (by omega)), fun q => absurd q (by simp)⟩
theorem Tn.lt (h : Tn w W a n c T E v out) : w.heap.size + 2 ≤ W.heap.size := by have := h.r2.lt; omega
end
/-- 'out = append(out, c)', c's own block far. -/
theorem wpList_pushT {ops : Array Oper} {rest : List Oper} {o : Oper} {act : Act} {Q : Exit → Act → World → Prop} {w wr : World} {a : Option Addr} {n c T : Nat} {E : Int} {v : Value} {out : List Cel} {q : Nat} (c0 : Cel)
    (hgd : Region.wanted o (yielded ops act.tmps) = true) (s y : Operand) (ho : o.op = .call { callee := .builtin .append, args := #[s, y], argTypes := #[79, 79] })
    (hs : act.eval s = v) (hy : act.eval y = .slice (some ⟨wr.heap.size, 0, none⟩) 1 1) (h : Tn w wr a n c T E v out) (hD : Whole wr q 118 (cellL .i64 c0)) (hf : ∀ g, v.ownBlock = some g → g ≠ q) (hlen : out.length ≤ 1000000)
    (cb : ∀ v' w1, Tn w w1 a n c T E v' (out ++ [c0]) → Whole w1 q 118 (cellL .i64 c0) → (∀ g, v'.ownBlock = some g → g ≠ q) → wpList Tryd.prog ops Q rest (act.put o.dst v') w1) : wpList Tryd.prog ops Q (o :: rest) act (wr.alloc (.cells #[.int .i64 c0.r, .int .i64 c0.m, .int .i64 c0.n, .int .u8 (c0.w : Int), .int .u8 (c0.p.f : Int), .int .u8 (c0.p.g : Int), .int .u8 (c0.p.b : Int)] 118)) := by
  have hB : w.heap.size + 1 + 1 ≤ wr.heap.size := by have := h.r2.lt; omega
  have hD2 := hD.alloc (.cells #[.int .i64 c0.r, .int .i64 c0.m, .int .i64 c0.n, .int .u8 (c0.w : Int), .int .u8 (c0.p.f : Int), .int .u8 (c0.p.g : Int), .int .u8 (c0.p.b : Int)] 118)
  have hql := hD.lt
  have h2 : Tn w (wr.alloc (.cells #[.int .i64 c0.r, .int .i64 c0.m, .int .i64 c0.n, .int .u8 (c0.w : Int), .int .u8 (c0.p.f : Int), .int .u8 (c0.p.g : Int), .int .u8 (c0.p.b : Int)] 118)) a n c T E v out := h.later ((Below.refl _ _).alloc (Nat.le_refl _) _)
  by_cases hz : out = []
  · have hv := h.nz hz
    subst hz
    refine wpList_pushCG elemLC c0 hgd s y ho (hs.trans hv) hy (OwnC.start (Nat.le_refl _)) (by simp) (by omega) ?_
    intro v' w1 hown hgr
    have hW : Whole w1 q 118 (cellL .i64 c0) := (hgr.block q hD2.lt (by simp [Value.ownBlock])).trans hD2
    refine cb v' w1 ?_ hW (fun g hg => by have := own_ge hown.own g hg; omega)
    refine ⟨(hgr.block _ h2.r1.lt (by simp [Value.ownBlock])).trans h2.r1, (hgr.block _ h2.r2.lt (by simp [Value.ownBlock])).trans h2.r2, ((hown.from (Below.refl _ _) hB).now), h.bel.trans (hown.bel.mono (by omega)), fun z => absurd z (by simp)⟩
  · refine wpList_pushCG elemLC c0 hgd s y ho hs hy h.ov hlen (by omega) ?_
    intro v' w1 hown hgr
    have hW : Whole w1 q 118 (cellL .i64 c0) := (hgr.block q hD2.lt (fun z => hf q z.symm rfl)).trans hD2
    refine cb v' w1 ?_ hW ?_
    · refine ⟨(rowC_same' h2.ov hgr _ _ _ (by decide) h2.r1).trans h2.r1, (rowC_same' h2.ov hgr _ _ _ (by decide) h2.r2).trans h2.r2, hown.now, h.bel.trans (hown.bel.mono (by omega)), fun z => absurd z (by simp)⟩
    · rintro g hg rfl
      rcases hown.own.2 with ⟨rfl, _⟩ | ⟨g', cap, cur, rfl, _, hh, hcap, _, hsz, _⟩
      · simp [Value.ownBlock] at hg
      · obtain rfl : g' = g := by simpa [Value.ownBlock] using hg
        have e : some (Obj.cells (cellL .i64 c0).toArray 118 (0, 0)) = some (Obj.cells cur 118 (0, 0)) := hW.symm.trans hh
        simp only [Option.some.injEq, Obj.cells.injEq] at e
        rw [← e.1] at hsz
        have h7 : (cellL .i64 c0).toArray.size = 7 := rfl
        have : 0 < out.length := List.length_pos_iff.2 hz
        rw [h7] at hsz
        simp at hcap
        omega
/-- The call answered with a reader and cells, and left all that was there. -/
def TakeN (w : World) (a : Option Addr) (n c : Nat) (x : (Nat × Int) × List Cel) (e : Ending) (w' : World) : Prop :=
  ∃ A cp, e = .returned (.tuple #[.agg #[.slice a n c, .int .i64 (x.1.1 : Int), .int .i64 x.1.2], .slice A x.2.length cp]) ∧ CelsT 0 118 .i64 w' A x.2 ∧ (x.2.length ≤ cp ∧ (A = none → cp = 0)) ∧ Below w.heap.size w w'
theorem ret46 {R : Ending → World → Prop} {act : Act} {w : World} {fn : Func} {s z : Nat} {p : Nat} {a0 a1 a2 v : Value} (hr : fn.results = #[.cell s 52, .tmp z]) (h4 : act.tmps.getD s undef = .pointer (some ⟨p, 0, none⟩)) (h6 : act.tmps.getD z undef = v) (hd : act.defers = [])
    (hw : Whole w p 52 [a0, a1, a2]) (hR : R (.returned (.tuple #[.agg #[a0, a1, a2], v])) w) : bodyPost Tryd.prog fn R .ret act w := by
  have k0 : w.cell? ⟨p, 0, none⟩ = some a0 := hw.cell 0
  have k1 : w.cell? ⟨p, 1, none⟩ = some a1 := hw.cell 1
  have k2 : w.cell? ⟨p, 2, none⟩ = some a2 := hw.cell 2
  clear hw
  rw [Array.getD_eq_getD_getElem?] at h4 h6
  exact bodyPost_ret (v := .tuple #[.agg #[a0, a1, a2], v]) (by simp [results, hr, h4, h6, k0, k1, k2, go_sem]) hd hR
theorem rrtake_any (a : Option Addr) (n c : Nat) (xs : List Int) (s : Nat × Int) (w : World) (hi : Ints .u8 w a xs) (hl : xs.length = n) (hb : Byte xs) (hn : n ≤ 1000000) (hc : n ≤ c) (ht : s.1 ≤ n) :
    Calls Tryd.prog 36 #[.agg #[.slice a n c, .int .i64 (s.1 : Int), .int .i64 s.2]] w (TakeN w a n c (takeD xs s)) := by
  obtain ⟨T0, E0⟩ := s
  simp only at ht
  obtain ⟨W0, hW0⟩ : ∃ W0, (w.alloc (.cells #[.slice a n c, .int .i64 (T0 : Int), .int .i64 E0] 52)).alloc (.cells #[.slice none 0 0, .int .i64 0, .int .i64 0] 52) = W0 := ⟨_, rfl⟩
  have HT0 : Hid (Tn w W0 a n c T0 E0 (.slice none 0 0) []) := by
    unfold Hid
    rw [← hW0]
    exact ⟨(Whole.new w 52 [.slice a n c, .int .i64 (T0 : Int), .int .i64 E0]).alloc _, whole_snd w _ 52 [.slice none 0 0, .int .i64 0, .int .i64 0], OwnC.start (by simp), below2 w _ _, fun _ => rfl⟩
  obtain ⟨v0, v1⟩ := upD_bd (xs := xs) (s := (T0, E0)) (most := 512) (er := 6) hb (by omega)
  have t1 := up_t (most := 512) (er := 6) hb (s := (T0, E0)) (by rw [hl]; exact ht)
  obtain ⟨⟨⟨T1, E1⟩, V⟩, hU⟩ : ∃ U, upD xs (T0, E0) 512 6 = U := ⟨_, rfl⟩
  rw [hU] at v0 v1 t1
  simp only at v0 v1 t1
  obtain ⟨N, rfl⟩ : ∃ N : Nat, V = (N : Int) := ⟨V.toNat, by omega⟩
  have hN : N ≤ 512 := by omega
  have HU := hide hU
  have HI := hide hi
  have HL := hide hl
  have HB := hide hb
  have HTT : Hid (∀ j, (loopD xs (T1, E1) j).1.1 ≤ xs.length) := loop_t hb t1
  have HW0 := hide hW0
  clear hW0 hU hi hl v0 v1 hb
  go_enter Tryd.func36, Tryd.ntmps36
  have r0 := HT0.out.r1.cell 0
  have r1 := HT0.out.r1.cell 1
  have r2 := HT0.out.r1.cell 2
  have rz0 := HT0.out.r1.frozen 0
  have rz1 := HT0.out.r1.frozen 1
  have rz2 := HT0.out.r1.frozen 2
  have rl := HT0.out.r1.lt
  simp only [List.getElem?_cons_zero, List.getElem?_cons_succ] at r0 r1 r2
  go_wp2_with fail
  rw [HW0.out]
  refine (rup a n c xs T0 E0 512 6 W0 (HI.out.below HT0.out.bel) HL.out HB.out hn hc (by rw [← HL.out]; exact (by rw [HL.out]; exact ht)) (by omega)).mono ?_
  have hu : upD xs (T0, E0) 512 6 = ((T1, E1), (N : Int)) := HU.out
  unfold upD at hu
  simp only [Prod.mk.injEq] at hu
  rw [hu.1.1, hu.1.2, hu.2]
  rintro e w1 ⟨rfl, hb9⟩
  clear hu
  have HT1 := hide (HT0.out.later hb9)
  clear hb9
  clear r0 r1 r2 rz0 rz1 rz2 rl
  have r0 := HT1.out.r1.cell 0
  have r1 := HT1.out.r1.cell 1
  have r2 := HT1.out.r1.cell 2
  have rz0 := HT1.out.r1.frozen 0
  have rz1 := HT1.out.r1.frozen 1
  have rz2 := HT1.out.r1.frozen 2
  have rl := HT1.out.r1.lt
  simp only [List.getElem?_cons_zero, List.getElem?_cons_succ] at r0 r1 r2
  have HT2 := hide (HT1.out.putR T1 E1)
  go_wp2
  go_loopw [4, 6] (fun v i wr => ∃ k : Nat, k ≤ N ∧ i = .int .i64 k ∧ Hid (Tn w wr a n c (loopD xs (T1, E1) k).1.1 (loopD xs (T1, E1) k).1.2 v (loopD xs (T1, E1) k).2)) (fun _ i _ => N - (intOf i).toNat)
  case atStart => exact ⟨0, Nat.zero_le _, rfl, HT2⟩
  case round =>
    obtain ⟨k, hk, rfl, HT⟩ := hrel
    clear r0 r1 r2 rz0 rz1 rz2 rl
    have tk := HTT.out k
    have hlen := fun hb z => loop_len (xs := xs) (s := (T1, E1)) hb k z
    obtain ⟨⟨⟨T2, E2⟩, out⟩, hX⟩ : ∃ X, loopD xs (T1, E1) k = X := ⟨_, rfl⟩
    rw [hX] at HT tk hlen
    simp only at HT tk hlen
    have HX := hide hX
    have r0 := HT.out.r1.cell 0
    have r1 := HT.out.r1.cell 1
    have r2 := HT.out.r1.cell 2
    have rz0 := HT.out.r1.frozen 0
    have rz1 := HT.out.r1.frozen 1
    have rz2 := HT.out.r1.frozen 2
    have rl := HT.out.r1.lt
    simp only [List.getElem?_cons_zero, List.getElem?_cons_succ] at r0 r1 r2
    by_cases hlt : k < N
    · by_cases hE : E2 = 0
      · have hE2 : (E2 == 0) = true := by simpa using hE
        obtain ⟨hl512, hpos⟩ := hlen HB.out hE
        clear hlen
        have hsu := loop_succ (xs := xs) (s := (T1, E1)) (j := k) (by rw [HX.out]; exact hE)
        rw [HX.out] at hsu
        have HEZ := hide hE
        obtain ⟨ln, hln⟩ : ∃ ln, out.length = ln := ⟨_, rfl⟩
        have HLN := hide hln
        obtain ⟨A0, cp, rfl, hcm⟩ : ∃ A0 cp, u4 = .slice A0 ln cp ∧ cp ≤ maxLen := by
          obtain ⟨A0, cp, e, _, _, _, hm⟩ := HT.out.ov.form
          exact ⟨A0, cp, by rw [e, hln], hm⟩
        obtain ⟨w0', w1'⟩ := upD_bd (xs := xs) (s := (T2, E2)) (most := 512 - (out.length : Int)) (er := 6) HB.out (by omega)
        have ta := up_t (most := 512 - (out.length : Int)) (er := 6) (s := (T2, E2)) HB.out tk
        obtain ⟨⟨⟨Ta, Ea⟩, VV⟩, hA⟩ : ∃ U, upD xs (T2, E2) (512 - (out.length : Int)) 6 = U := ⟨_, rfl⟩
        rw [hA] at w0' w1' ta
        simp only at w0' w1' ta
        obtain ⟨KK, rfl⟩ : ∃ KK : Nat, VV = (KK : Int) := ⟨VV.toNat, by omega⟩
        obtain ⟨Es, hES⟩ : ∃ Es, (if Ea = 0 ∧ (KK : Int) = 0 then (3 : Int) else Ea) = Es := ⟨_, rfl⟩
        have hST : (if (Ta, Ea).2 = 0 ∧ (KK : Int) = 0 then ((Ta, Ea).1, (3 : Int)) else (Ta, Ea)) = (Ta, Es) := by
          rw [← hES]
          by_cases q : Ea = 0 ∧ (KK : Int) = 0
          · simp only [if_pos q]
          · simp only [if_neg q]
        have tb := one_t (s := (Ta, Es)) HB.out ta
        have hd2 := one_w (s := (Ta, Es)) HB.out
        obtain ⟨⟨⟨Tb, Eb⟩, ⟨r, m, y, d, ⟨f, gg, b⟩⟩, ok⟩, hCC⟩ : ∃ U, oneD xs (Ta, Es) = U := ⟨_, rfl⟩
        rw [hCC] at tb hd2
        simp only at tb hd2
        have hstep := stepP (i := k) hA hST hCC
        rw [Int.toNat_natCast] at hstep
        obtain ⟨Ec, hEC⟩ : ∃ Ec, (if Eb = 0 ∧ (ok = false ∨ rightC ⟨r, m, y, d, ⟨f, gg, b⟩⟩ = false ∨ 0 < k ∧ cAt out (out.length - 1) = ⟨r, m, y, d, ⟨f, gg, b⟩⟩) then (3 : Int) else Eb) = Ec := ⟨_, rfl⟩
        rw [hEC] at hstep
        rw [hstep] at hsu
        have HNX := hide hsu
        rw [hln] at hA hl512 hpos w1' hEC
        have HA := hide hA
        have HES := hide hES
        have HEC := hide hEC
        have HCC := hide hCC
        clear hA hES hEC hCC hST hstep hsu hE hln w0'
        go_wp2_with fail
        refine (rup a n c xs T2 E2 (512 - (ln : Int)) 6 wr (HI.out.below HT.out.bel) HL.out HB.out hn hc (by rw [← HL.out]; exact tk) (by omega)).mono ?_
        have hu : upD xs (T2, E2) (512 - (ln : Int)) 6 = ((Ta, Ea), (KK : Int)) := HA.out
        unfold upD at hu
        simp only [Prod.mk.injEq] at hu
        rw [hu.1.1, hu.1.2, hu.2]
        rintro e w2 ⟨rfl, hb9⟩
        clear hu
        have HT3' := hide (HT.out.later hb9)
        clear hb9 r0 r1 r2 rz0 rz1 rz2 rl
        have r0 := HT3'.out.r1.cell 0
        have r1 := HT3'.out.r1.cell 1
        have r2 := HT3'.out.r1.cell 2
        have rz0 := HT3'.out.r1.frozen 0
        have rz1 := HT3'.out.r1.frozen 1
        have rz2 := HT3'.out.r1.frozen 2
        have rl := HT3'.out.r1.lt
        simp only [List.getElem?_cons_zero, List.getElem?_cons_succ] at r0 r1 r2
        have HT3 := hide (HT3'.out.putR Ta Ea)
        obtain ⟨w3, hw3⟩ : ∃ w3, ((w2.setCell ⟨w.heap.size, 0, none⟩ (.slice a n c)).setCell ⟨w.heap.size, 1, none⟩ (.int .i64 (Ta : Int))).setCell ⟨w.heap.size, 2, none⟩ (.int .i64 Ea) = w3 := ⟨_, rfl⟩
        rw [hw3] at HT3
        have HW3 := hide hw3
        clear hw3 HT3'
        go_upto_region 8 with fail
        rw [HW3.out]
        clear r0 r1 r2 rz0 rz1 rz2 rl
        have r0 := HT3.out.r1.cell 0
        have r1 := HT3.out.r1.cell 1
        have r2 := HT3.out.r1.cell 2
        have rz0 := HT3.out.r1.frozen 0
        have rz1 := HT3.out.r1.frozen 1
        have rz2 := HT3.out.r1.frozen 2
        have rl := HT3.out.r1.lt
        simp only [List.getElem?_cons_zero, List.getElem?_cons_succ] at r0 r1 r2
        obtain ⟨bz, hbz⟩ : ∃ bz, decide (Ea = 0 ∧ (KK : Int) = 0) = bz := ⟨_, rfl⟩
        go_cut [41] from 17 to 90 (fun v wx => v = .bool bz ∧ wx = w3)
        case first =>
          by_cases hz : Ea = 0
          · have e1 : (Ea == 0) = true := by simpa using hz
            have HZ := hide hz
            clear hz
            by_cases hq : (KK : Int) = 0
            · have e2 : ((KK : Int) == 0) = true := by simpa using hq
              have HQ := hide (hbz.symm.trans (decide_eq_true ⟨HZ.out, hq⟩))
              clear hq hbz
              go_wp2
              go_meet
              case rel => exact ⟨by rw [HQ.out], rfl⟩
            · have e2 : ((KK : Int) == 0) = false := by simpa using hq
              have HQ := hide (hbz.symm.trans (decide_eq_false (fun z => hq z.2)))
              clear hq hbz
              go_wp2
              go_meet
              case rel => exact ⟨by rw [HQ.out], rfl⟩
          · have e1 : (Ea == 0) = false := by simpa using hz
            have HQ := hide (hbz.symm.trans (decide_eq_false (fun z => hz z.1)))
            clear hz hbz
            go_wp2
            go_meet
            case rel => exact ⟨by rw [HQ.out], rfl⟩
        case rest =>
          obtain ⟨hv, hwc⟩ := hcut
          subst hv
          rw [hwc]
          clear hwc
          go_upto_if 41 with fail
          have HBZ := hide hbz
          clear hbz
          go_cut [42] from 17 to 90 (fun _ wx => Hid (Tn w wx a n c Ta Es (.slice A0 ln cp) out))
          case first =>
            rcases Bool.eq_false_or_eq_true bz with hk | hk
            · have HK := hide hk
              rw [hk]
              clear hk
              go_wp2
              go_meet
              case rel =>
                have e3 := HES.out
                rw [if_pos (of_decide_eq_true (HBZ.out.trans HK.out))] at e3
                rw [← e3]
                exact HT3.out.putE 3
            · have HK := hide hk
              rw [hk]
              clear hk
              go_wp2
              go_meet
              case rel =>
                have e3 := HES.out
                rw [if_neg (of_decide_eq_false (HBZ.out.trans HK.out))] at e3
                rw [← e3]
                exact HT3
          case rest =>
            have HT4 := hcut
            clear hcut HT3 r0 r1 r2 rz0 rz1 rz2 rl
            have r0 := HT4.out.r1.cell 0
            have r1 := HT4.out.r1.cell 1
            have r2 := HT4.out.r1.cell 2
            have rz0 := HT4.out.r1.frozen 0
            have rz1 := HT4.out.r1.frozen 1
            have rz2 := HT4.out.r1.frozen 2
            have rl := HT4.out.r1.lt
            simp only [List.getElem?_cons_zero, List.getElem?_cons_succ] at r0 r1 r2
            go_wp2_with fail
            have X := rrone_any a n c xs (Ta, Es) wc (HI.out.below HT4.out.bel) HL.out HB.out hn hc (by rw [← HL.out]; exact ta)
            simp only at X
            refine X.mono ?_
            clear X
            rw [HCC.out]
            rintro e w5 ⟨rfl, hb5⟩
            have HT5 := hide (HT4.out.later hb5)
            clear hb5 r0 r1 r2 rz0 rz1 rz2 rl
            have r0 := HT5.out.r1.cell 0
            have r1 := HT5.out.r1.cell 1
            have r2 := HT5.out.r1.cell 2
            have rz0 := HT5.out.r1.frozen 0
            have rz1 := HT5.out.r1.frozen 1
            have rz2 := HT5.out.r1.frozen 2
            have rl := HT5.out.r1.lt
            simp only [List.getElem?_cons_zero, List.getElem?_cons_succ] at r0 r1 r2
            obtain ⟨w6, hw6⟩ : ∃ w6, (w5.alloc (.cells #[.slice a n c, .int .i64 (Tb : Int), .int .i64 Eb] 52)).alloc (.cells #[.int .i64 r, .int .i64 m, .int .i64 y, .int .u8 (d : Int), .int .u8 (f : Int), .int .u8 (gg : Int), .int .u8 (b : Int)] 118) = w6 := ⟨_, rfl⟩
            have hb6 : Below w5.heap.size w5 w6 := by rw [← hw6]; exact below2 w5 _ _
            have HX6 : Hid (Whole w6 w5.heap.size 52 [.slice a n c, .int .i64 (Tb : Int), .int .i64 Eb]) := by unfold Hid; rw [← hw6]; exact (Whole.new w5 52 [.slice a n c, .int .i64 (Tb : Int), .int .i64 Eb]).alloc _
            have HD6' : Hid (Whole w6 (w5.heap.size + 1) 118 [.int .i64 r, .int .i64 m, .int .i64 y, .int .u8 (d : Int), .int .u8 (f : Int), .int .u8 (gg : Int), .int .u8 (b : Int)]) := by unfold Hid; rw [← hw6]; exact whole_snd w5 _ 118 [.int .i64 r, .int .i64 m, .int .i64 y, .int .u8 (d : Int), .int .u8 (f : Int), .int .u8 (gg : Int), .int .u8 (b : Int)]
            have HT6 := hide (HT5.out.later hb6)
            have HF6' : Hid (∀ g, (Value.slice A0 ln cp).ownBlock = some g → g ≠ w5.heap.size + 1) := fun g hg => by have := (HT5.out.ov.own.lt g hg).2; omega
            have HQ6' : Hid (w.heap.size + 2 ≤ w5.heap.size + 1) := by unfold Hid; have := HT5.out.lt; omega
            have HW6 := hide hw6
            clear hb6 hw6
            go_upto_region 11 with fail
            rw [HW6.out]
            obtain ⟨q9, hq9⟩ : ∃ q9, w5.heap.size + 1 = q9 := ⟨_, rfl⟩
            have HD6 := HD6'
            have HF6 := HF6'
            have HQ6 := HQ6'
            rw [hq9] at HD6 HF6 HQ6 ⊢
            clear HD6' HF6' HQ6' hq9 r0 r1 r2 rz0 rz1 rz2 rl
            have r0 := HT6.out.r1.cell 0
            have r1 := HT6.out.r1.cell 1
            have r2 := HT6.out.r1.cell 2
            have rz0 := HT6.out.r1.frozen 0
            have rz1 := HT6.out.r1.frozen 1
            have rz2 := HT6.out.r1.frozen 2
            have rl := HT6.out.r1.lt
            simp only [List.getElem?_cons_zero, List.getElem?_cons_succ] at r0 r1 r2
            have x0 := HX6.out.cell 0
            have x1 := HX6.out.cell 1
            have x2 := HX6.out.cell 2
            have xl := HX6.out.lt
            simp only [List.getElem?_cons_zero, List.getElem?_cons_succ] at x0 x1 x2
            obtain ⟨w7, hw7⟩ : ∃ w7, ((w6.setCell ⟨w.heap.size, 0, none⟩ (.slice a n c)).setCell ⟨w.heap.size, 1, none⟩ (.int .i64 (Tb : Int))).setCell ⟨w.heap.size, 2, none⟩ (.int .i64 Eb) = w7 := ⟨_, rfl⟩
            have HT7 : Hid (Tn w w7 a n c Tb Eb (.slice A0 ln cp) out) := by unfold Hid; rw [← hw7]; exact HT6.out.putR Tb Eb
            have HD7 : Hid (Whole w7 q9 118 [.int .i64 r, .int .i64 m, .int .i64 y, .int .u8 (d : Int), .int .u8 (f : Int), .int .u8 (gg : Int), .int .u8 (b : Int)]) := by
              unfold Hid
              rw [← hw7]
              have := HQ6.out
              exact whole_put (whole_put (whole_put HD6.out (by omega) _) (by omega) _) (by omega) _
            have HW7 := hide hw7
            clear hw7
            go_upto_region 12 with fail
            rw [HW7.out]
            clear x0 x1 x2 xl r0 r1 r2 rz0 rz1 rz2 rl HT6 HD6 HT5 HX6
            have r0 := HT7.out.r1.cell 0
            have r1 := HT7.out.r1.cell 1
            have r2 := HT7.out.r1.cell 2
            have rz0 := HT7.out.r1.frozen 0
            have rz1 := HT7.out.r1.frozen 1
            have rz2 := HT7.out.r1.frozen 2
            have rl := HT7.out.r1.lt
            simp only [List.getElem?_cons_zero, List.getElem?_cons_succ] at r0 r1 r2
            obtain ⟨c0, c1, c2, c3, c4, c5, c6, -⟩ := cells7 HD7.out
            have l7 := HD7.out.lt
            have eC := @eqlC
            obtain ⟨bd, hbd⟩ : ∃ bd, decide (Eb = 0 ∧ (ok = false ∨ rightC ⟨r, m, y, d, ⟨f, gg, b⟩⟩ = false ∨ 0 < k ∧ cAt out (ln - 1) = ⟨r, m, y, d, ⟨f, gg, b⟩⟩)) = bd := ⟨_, rfl⟩
            have HBD := hide hbd
            clear hbd
            obtain ⟨rt, hrt⟩ : ∃ rt, rightC ⟨r, m, y, d, ⟨f, gg, b⟩⟩ = rt := ⟨_, rfl⟩
            have HRT := hide hrt
            clear hrt
            have hKpos : 0 < k → 0 < ln := hpos
            clear hpos
            have HKP := hide hKpos
            clear hKpos
            go_cut [75] from 17 to 90 (fun v wx => v = .bool bd ∧ Hid (Tn w wx a n c Tb Eb (.slice A0 ln cp) out) ∧ Hid (Whole wx q9 118 [.int .i64 r, .int .i64 m, .int .i64 y, .int .u8 (d : Int), .int .u8 (f : Int), .int .u8 (gg : Int), .int .u8 (b : Int)]))
            case first =>
              by_cases hz : Eb = 0
              · have e1 : (Eb == 0) = true := by simpa using hz
                rcases Bool.eq_false_or_eq_true ok with hk | hk
                · have HNK : Hid ((!ok) = false) := by unfold Hid; rw [hk]; rfl
                  rcases Bool.eq_false_or_eq_true rt with hr | hr
                  · subst hr
                    by_cases hk0 : 0 < k
                    · have HKZ : Hid (decide (0 < k) = true) := by unfold Hid; simp; omega
                      have hlp := HKP.out hk0
                      obtain ⟨A3, c3', hv3, hcl3, -, -, -⟩ := HT7.out.ov.form
                      rw [HLN.out] at hv3
                      cases hv3
                      obtain ⟨⟨r', m', y', d', ⟨f', g', b'⟩⟩, hla⟩ : ∃ q, cAt out (ln - 1) = q := ⟨_, rfl⟩
                      obtain ⟨bq, oq, rfl, lq, -⟩ := hcl3.at (i := ln - 1) (by rw [HLN.out]; omega)
                      obtain ⟨u0, u1, u2, u3', u4', u5, u6, -⟩ := hcl3.sevenC (ln - 1) (by rw [HLN.out]; omega) hla
                      clear hcl3
                      obtain ⟨l1, rfl⟩ : ∃ l1, ln = l1 + 1 := ⟨ln - 1, by omega⟩
                      rw [Nat.add_sub_cancel] at u0 u1 u2 u3' u4' u5 u6 hla
                      have hwl : IntKind.i64.wrap (l1 : Int) = (l1 : Int) := wrap_small _ (by omega) (by omega)
                      have hb1 : (0 : Int) ≤ (l1 : Int) := by omega
                      have hb2 : (l1 : Int) < (l1 : Int) + 1 := by omega
                      have u3 := u3'
                      have u4 := u4'
                      clear u3' u4'
                      by_cases hs : cAt out l1 = ⟨r, m, y, d, ⟨f, gg, b⟩⟩
                      · have hqq : eqC r' m' y' (d' : Int) (f' : Int) (g' : Int) (b' : Int) r m y (d : Int) (f : Int) (gg : Int) (b : Int) = true := by rw [eqC_cel]; exact decide_eq_true (by rw [← hla]; exact hs)
                        have HV : Hid (bd = true) := HBD.out.symm.trans (decide_eq_true ⟨hz, .inr (.inr ⟨hk0, by rw [Nat.add_sub_cancel]; exact hs⟩)⟩)
                        clear hz hk hs hla hk0 hlp
                        refine wp_region_chainL (fun w' => Below w7.heap.size w7 w') 25 [(1, 0), (1, 1), (1, 2), (1, 3), (1, 4), (1, 5), (1, 6), (1, 7), (1, 8), (1, 9), (1, 10), (1, 11), (1, 12), (1, 13), (1, 14), (0, 15), (0, 16), (0, 17), (0, 18), (0, 19), (0, 20), (1, 21), (1, 22), (1, 23), (1, 24), (3, 25)] (by kernel_rfl) (by kernel_rfl) (by kernel_rfl) (fun _ _ _ _ _ h => h) ?_ ?_
                        · exact (Below.refl _ _).drewN 1
                        refine chainL_alone (by simp only [List.getElem?_toArray, List.getElem?_cons_zero]; rfl) ?_
                        intro K hK
                        go_wp2
                        refine hK.out _ _ ((Below.refl _ _).drewN 1) ?_
                        clear hK K
                        refine chainL_alone (by simp only [List.getElem?_toArray, List.getElem?_cons_zero, List.getElem?_cons_succ]; rfl) ?_
                        intro K hK
                        go_wp2
                        refine hK.out _ _ ((Below.refl _ _).drewN 1) ?_
                        clear hK K
                        refine chainL_alone (by simp only [List.getElem?_toArray, List.getElem?_cons_zero, List.getElem?_cons_succ]; rfl) ?_
                        intro K hK
                        go_wp2
                        refine hK.out _ _ ((Below.refl _ _).drewN 1) ?_
                        clear hK K
                        refine chainL_alone (by simp only [List.getElem?_toArray, List.getElem?_cons_zero, List.getElem?_cons_succ]; rfl) ?_
                        intro K hK
                        go_wp2
                        refine hK.out _ _ ((Below.refl _ _).drewN 1) ?_
                        clear hK K
                        refine chainL_alone (by simp only [List.getElem?_toArray, List.getElem?_cons_zero, List.getElem?_cons_succ]; rfl) ?_
                        intro K hK
                        go_wp2
                        refine hK.out _ _ ((Below.refl _ _).drewN 1) ?_
                        clear hK K
                        refine chainL_alone (by simp only [List.getElem?_toArray, List.getElem?_cons_zero, List.getElem?_cons_succ]; rfl) ?_
                        intro K hK
                        go_wp2
                        rw [HNK.out]
                        refine hK.out _ _ ((Below.refl _ _).drewN 1) ?_
                        clear hK K
                        refine chainL_alone (by simp only [List.getElem?_toArray, List.getElem?_cons_zero, List.getElem?_cons_succ]; rfl) ?_
                        intro K hK
                        go_wp2
                        refine hK.out _ _ ((Below.refl _ _).drewN 1) ?_
                        clear hK K
                        refine chainL_alone (by simp only [List.getElem?_toArray, List.getElem?_cons_zero, List.getElem?_cons_succ]; rfl) ?_
                        intro K hK
                        go_wp2
                        refine hK.out _ _ ((Below.refl _ _).drewN 1) ?_
                        clear hK K
                        refine chainL_alone (by simp only [List.getElem?_toArray, List.getElem?_cons_zero, List.getElem?_cons_succ]; rfl) ?_
                        intro K hK
                        go_wp2_with fail
                        refine (rcright_any r m y d f gg b (by omega) _).mono ?_
                        rintro e w9 ⟨rfl, hb9⟩
                        rw [HRT.out]
                        have HB9 := hide (((Below.refl _ _).drewN 1).trans hb9 : Below w7.heap.size w7 w9)
                        have HD9 := hide (HD7.out.later HB9.out)
                        clear hb9 c0 c1 c2 c3 c4 c5 c6 l7
                        obtain ⟨c0, c1, c2, c3, c4, c5, c6, -⟩ := cells7 HD9.out
                        have l7 := HD9.out.lt
                        go_wp2
                        refine hK.out _ _ (HB9.out) ?_
                        clear hK K
                        refine chainL_alone (by simp only [List.getElem?_toArray, List.getElem?_cons_zero, List.getElem?_cons_succ]; rfl) ?_
                        intro K hK
                        go_wp2
                        refine hK.out _ _ (HB9.out) ?_
                        clear hK K
                        refine chainL_alone (by simp only [List.getElem?_toArray, List.getElem?_cons_zero, List.getElem?_cons_succ]; rfl) ?_
                        intro K hK
                        go_wp2
                        refine hK.out _ _ (HB9.out) ?_
                        clear hK K
                        refine chainL_alone (by simp only [List.getElem?_toArray, List.getElem?_cons_zero, List.getElem?_cons_succ]; rfl) ?_
                        intro K hK
                        go_wp2
                        refine hK.out _ _ (HB9.out) ?_
                        clear hK K
                        refine chainL_alone (by simp only [List.getElem?_toArray, List.getElem?_cons_zero, List.getElem?_cons_succ]; rfl) ?_
                        intro K hK
                        go_wp2
                        refine hK.out _ _ (HB9.out) ?_
                        clear hK K
                        refine chainL_alone (by simp only [List.getElem?_toArray, List.getElem?_cons_zero, List.getElem?_cons_succ]; rfl) ?_
                        intro K hK
                        go_wp2
                        rw [HKZ.out]
                        refine hK.out _ _ (HB9.out) ?_
                        clear hK K
                        refine chainL_alone (by simp only [List.getElem?_toArray, List.getElem?_cons_zero, List.getElem?_cons_succ]; rfl) ?_
                        intro K hK
                        go_wp2
                        refine hK.out _ _ (HB9.out) ?_
                        clear hK K
                        refine chainL_take (v := ?_) (by simp only [List.getElem?_toArray, List.getElem?_cons_zero, List.getElem?_cons_succ]; rfl) (by rfl) (fun w hS => ?_) ?_
                        rotate_left
                        · go_simp <;> with_reducible rfl
                        simp only [Act.put, List.setIfInBounds_toArray, List.set_cons_zero, List.set_cons_succ]
                        refine chainL_take (v := ?_) (by simp only [List.getElem?_toArray, List.getElem?_cons_zero, List.getElem?_cons_succ]; rfl) (by rfl) (fun w hS => ?_) ?_
                        rotate_left
                        · go_simp <;> with_reducible rfl
                        simp only [Act.put, List.setIfInBounds_toArray, List.set_cons_zero, List.set_cons_succ]
                        refine chainL_take (v := ?_) (by simp only [List.getElem?_toArray, List.getElem?_cons_zero, List.getElem?_cons_succ]; rfl) (by rfl) (fun w hS => ?_) ?_
                        rotate_left
                        · go_simp <;> with_reducible rfl
                        simp only [Act.put, List.setIfInBounds_toArray, List.set_cons_zero, List.set_cons_succ]
                        refine chainL_take (v := ?_) (by simp only [List.getElem?_toArray, List.getElem?_cons_zero, List.getElem?_cons_succ]; rfl) (by rfl) (fun w hS => ?_) ?_
                        rotate_left
                        · go_simp <;> with_reducible rfl
                        simp only [Act.put, List.setIfInBounds_toArray, List.set_cons_zero, List.set_cons_succ]
                        refine chainL_take (v := ?_) (by simp only [List.getElem?_toArray, List.getElem?_cons_zero, List.getElem?_cons_succ]; rfl) (by rfl) (fun w hS => ?_) ?_
                        rotate_left
                        · go_simp <;> with_reducible rfl
                        simp only [Act.put, List.setIfInBounds_toArray, List.set_cons_zero, List.set_cons_succ]
                        refine chainL_take (v := ?_) (by simp only [List.getElem?_toArray, List.getElem?_cons_zero, List.getElem?_cons_succ]; rfl) (by rfl) (fun w hS => ?_) ?_
                        rotate_left
                        · have lw := Nat.lt_of_lt_of_le lq hS.size
                          have s0 := (hS.cell (p := ⟨bq, oq + l1 * 7, none⟩) lq).trans u0
                          have s1 := (hS.cell (p := ⟨bq, oq + l1 * 7 + 1, none⟩) lq).trans u1
                          have s2 := (hS.cell (p := ⟨bq, oq + l1 * 7 + 2, none⟩) lq).trans u2
                          have s3 := (hS.cell (p := ⟨bq, oq + l1 * 7 + 3, none⟩) lq).trans u3
                          have s4 := (hS.cell (p := ⟨bq, oq + l1 * 7 + 4, none⟩) lq).trans u4
                          have s5 := (hS.cell (p := ⟨bq, oq + l1 * 7 + 5, none⟩) lq).trans u5
                          have s6 := (hS.cell (p := ⟨bq, oq + l1 * 7 + 6, none⟩) lq).trans u6
                          go_simp <;> with_reducible rfl
                        simp only [Act.put, List.setIfInBounds_toArray, List.set_cons_zero, List.set_cons_succ]
                        refine chainL_alone (by simp only [List.getElem?_toArray, List.getElem?_cons_zero, List.getElem?_cons_succ]; rfl) ?_
                        intro K hK
                        go_wp2
                        refine hK.out _ _ (HB9.out) ?_
                        clear hK K
                        refine chainL_alone (by simp only [List.getElem?_toArray, List.getElem?_cons_zero, List.getElem?_cons_succ]; rfl) ?_
                        intro K hK
                        go_wp2
                        refine hK.out _ _ (HB9.out) ?_
                        clear hK K
                        refine chainL_alone (by simp only [List.getElem?_toArray, List.getElem?_cons_zero, List.getElem?_cons_succ]; rfl) ?_
                        intro K hK
                        go_wp2
                        refine hK.out _ _ (HB9.out) ?_
                        clear hK K
                        refine chainL_alone (by simp only [List.getElem?_toArray, List.getElem?_cons_zero, List.getElem?_cons_succ]; rfl) ?_
                        intro K hK
                        go_wp2
                        refine hK.out _ _ (HB9.out) ?_
                        clear hK K
                        refine chainL_late (by simp only [List.getElem?_toArray, List.getElem?_cons_zero, List.getElem?_cons_succ]; rfl) ?_
                        intro K hK
                        go_wp2
                        refine hK.out _ _ ?_
                        clear hK K
                        refine chainL_nil ?_
                        go_wp2
                        go_meet
                        case rel => exact ⟨by rw [HV.out], hide (HT7.out.later HB9.out), HD9⟩
                      · have hqq : eqC r' m' y' (d' : Int) (f' : Int) (g' : Int) (b' : Int) r m y (d : Int) (f : Int) (gg : Int) (b : Int) = false := by rw [eqC_cel]; exact decide_eq_false (by rw [← hla]; exact hs)
                        have HV : Hid (bd = false) := HBD.out.symm.trans (decide_eq_false (fun z => by rcases z.2 with q | q | q; (rw [hk] at q; cases q); (rw [HRT.out] at q; cases q); exact hs (by have := q.2; rwa [Nat.add_sub_cancel] at this)))
                        clear hz hk hs hla hk0 hlp
                        refine wp_region_chainL (fun w' => Below w7.heap.size w7 w') 25 [(1, 0), (1, 1), (1, 2), (1, 3), (1, 4), (1, 5), (1, 6), (1, 7), (1, 8), (1, 9), (1, 10), (1, 11), (1, 12), (1, 13), (1, 14), (0, 15), (0, 16), (0, 17), (0, 18), (0, 19), (0, 20), (1, 21), (1, 22), (1, 23), (1, 24), (3, 25)] (by kernel_rfl) (by kernel_rfl) (by kernel_rfl) (fun _ _ _ _ _ h => h) ?_ ?_
                        · exact (Below.refl _ _).drewN 1
                        refine chainL_alone (by simp only [List.getElem?_toArray, List.getElem?_cons_zero]; rfl) ?_
                        intro K hK
                        go_wp2
                        refine hK.out _ _ ((Below.refl _ _).drewN 1) ?_
                        clear hK K
                        refine chainL_alone (by simp only [List.getElem?_toArray, List.getElem?_cons_zero, List.getElem?_cons_succ]; rfl) ?_
                        intro K hK
                        go_wp2
                        refine hK.out _ _ ((Below.refl _ _).drewN 1) ?_
                        clear hK K
                        refine chainL_alone (by simp only [List.getElem?_toArray, List.getElem?_cons_zero, List.getElem?_cons_succ]; rfl) ?_
                        intro K hK
                        go_wp2
                        refine hK.out _ _ ((Below.refl _ _).drewN 1) ?_
                        clear hK K
                        refine chainL_alone (by simp only [List.getElem?_toArray, List.getElem?_cons_zero, List.getElem?_cons_succ]; rfl) ?_
                        intro K hK
                        go_wp2
                        refine hK.out _ _ ((Below.refl _ _).drewN 1) ?_
                        clear hK K
                        refine chainL_alone (by simp only [List.getElem?_toArray, List.getElem?_cons_zero, List.getElem?_cons_succ]; rfl) ?_
                        intro K hK
                        go_wp2
                        refine hK.out _ _ ((Below.refl _ _).drewN 1) ?_
                        clear hK K
                        refine chainL_alone (by simp only [List.getElem?_toArray, List.getElem?_cons_zero, List.getElem?_cons_succ]; rfl) ?_
                        intro K hK
                        go_wp2
                        rw [HNK.out]
                        refine hK.out _ _ ((Below.refl _ _).drewN 1) ?_
                        clear hK K
                        refine chainL_alone (by simp only [List.getElem?_toArray, List.getElem?_cons_zero, List.getElem?_cons_succ]; rfl) ?_
                        intro K hK
                        go_wp2
                        refine hK.out _ _ ((Below.refl _ _).drewN 1) ?_
                        clear hK K
                        refine chainL_alone (by simp only [List.getElem?_toArray, List.getElem?_cons_zero, List.getElem?_cons_succ]; rfl) ?_
                        intro K hK
                        go_wp2
                        refine hK.out _ _ ((Below.refl _ _).drewN 1) ?_
                        clear hK K
                        refine chainL_alone (by simp only [List.getElem?_toArray, List.getElem?_cons_zero, List.getElem?_cons_succ]; rfl) ?_
                        intro K hK
                        go_wp2_with fail
                        refine (rcright_any r m y d f gg b (by omega) _).mono ?_
                        rintro e w9 ⟨rfl, hb9⟩
                        rw [HRT.out]
                        have HB9 := hide (((Below.refl _ _).drewN 1).trans hb9 : Below w7.heap.size w7 w9)
                        have HD9 := hide (HD7.out.later HB9.out)
                        clear hb9 c0 c1 c2 c3 c4 c5 c6 l7
                        obtain ⟨c0, c1, c2, c3, c4, c5, c6, -⟩ := cells7 HD9.out
                        have l7 := HD9.out.lt
                        go_wp2
                        refine hK.out _ _ (HB9.out) ?_
                        clear hK K
                        refine chainL_alone (by simp only [List.getElem?_toArray, List.getElem?_cons_zero, List.getElem?_cons_succ]; rfl) ?_
                        intro K hK
                        go_wp2
                        refine hK.out _ _ (HB9.out) ?_
                        clear hK K
                        refine chainL_alone (by simp only [List.getElem?_toArray, List.getElem?_cons_zero, List.getElem?_cons_succ]; rfl) ?_
                        intro K hK
                        go_wp2
                        refine hK.out _ _ (HB9.out) ?_
                        clear hK K
                        refine chainL_alone (by simp only [List.getElem?_toArray, List.getElem?_cons_zero, List.getElem?_cons_succ]; rfl) ?_
                        intro K hK
                        go_wp2
                        refine hK.out _ _ (HB9.out) ?_
                        clear hK K
                        refine chainL_alone (by simp only [List.getElem?_toArray, List.getElem?_cons_zero, List.getElem?_cons_succ]; rfl) ?_
                        intro K hK
                        go_wp2
                        refine hK.out _ _ (HB9.out) ?_
                        clear hK K
                        refine chainL_alone (by simp only [List.getElem?_toArray, List.getElem?_cons_zero, List.getElem?_cons_succ]; rfl) ?_
                        intro K hK
                        go_wp2
                        rw [HKZ.out]
                        refine hK.out _ _ (HB9.out) ?_
                        clear hK K
                        refine chainL_alone (by simp only [List.getElem?_toArray, List.getElem?_cons_zero, List.getElem?_cons_succ]; rfl) ?_
                        intro K hK
                        go_wp2
                        refine hK.out _ _ (HB9.out) ?_
                        clear hK K
                        refine chainL_take (v := ?_) (by simp only [List.getElem?_toArray, List.getElem?_cons_zero, List.getElem?_cons_succ]; rfl) (by rfl) (fun w hS => ?_) ?_
                        rotate_left
                        · go_simp <;> with_reducible rfl
                        simp only [Act.put, List.setIfInBounds_toArray, List.set_cons_zero, List.set_cons_succ]
                        refine chainL_take (v := ?_) (by simp only [List.getElem?_toArray, List.getElem?_cons_zero, List.getElem?_cons_succ]; rfl) (by rfl) (fun w hS => ?_) ?_
                        rotate_left
                        · go_simp <;> with_reducible rfl
                        simp only [Act.put, List.setIfInBounds_toArray, List.set_cons_zero, List.set_cons_succ]
                        refine chainL_take (v := ?_) (by simp only [List.getElem?_toArray, List.getElem?_cons_zero, List.getElem?_cons_succ]; rfl) (by rfl) (fun w hS => ?_) ?_
                        rotate_left
                        · go_simp <;> with_reducible rfl
                        simp only [Act.put, List.setIfInBounds_toArray, List.set_cons_zero, List.set_cons_succ]
                        refine chainL_take (v := ?_) (by simp only [List.getElem?_toArray, List.getElem?_cons_zero, List.getElem?_cons_succ]; rfl) (by rfl) (fun w hS => ?_) ?_
                        rotate_left
                        · go_simp <;> with_reducible rfl
                        simp only [Act.put, List.setIfInBounds_toArray, List.set_cons_zero, List.set_cons_succ]
                        refine chainL_take (v := ?_) (by simp only [List.getElem?_toArray, List.getElem?_cons_zero, List.getElem?_cons_succ]; rfl) (by rfl) (fun w hS => ?_) ?_
                        rotate_left
                        · go_simp <;> with_reducible rfl
                        simp only [Act.put, List.setIfInBounds_toArray, List.set_cons_zero, List.set_cons_succ]
                        refine chainL_take (v := ?_) (by simp only [List.getElem?_toArray, List.getElem?_cons_zero, List.getElem?_cons_succ]; rfl) (by rfl) (fun w hS => ?_) ?_
                        rotate_left
                        · have lw := Nat.lt_of_lt_of_le lq hS.size
                          have s0 := (hS.cell (p := ⟨bq, oq + l1 * 7, none⟩) lq).trans u0
                          have s1 := (hS.cell (p := ⟨bq, oq + l1 * 7 + 1, none⟩) lq).trans u1
                          have s2 := (hS.cell (p := ⟨bq, oq + l1 * 7 + 2, none⟩) lq).trans u2
                          have s3 := (hS.cell (p := ⟨bq, oq + l1 * 7 + 3, none⟩) lq).trans u3
                          have s4 := (hS.cell (p := ⟨bq, oq + l1 * 7 + 4, none⟩) lq).trans u4
                          have s5 := (hS.cell (p := ⟨bq, oq + l1 * 7 + 5, none⟩) lq).trans u5
                          have s6 := (hS.cell (p := ⟨bq, oq + l1 * 7 + 6, none⟩) lq).trans u6
                          go_simp <;> with_reducible rfl
                        simp only [Act.put, List.setIfInBounds_toArray, List.set_cons_zero, List.set_cons_succ]
                        refine chainL_alone (by simp only [List.getElem?_toArray, List.getElem?_cons_zero, List.getElem?_cons_succ]; rfl) ?_
                        intro K hK
                        go_wp2
                        refine hK.out _ _ (HB9.out) ?_
                        clear hK K
                        refine chainL_alone (by simp only [List.getElem?_toArray, List.getElem?_cons_zero, List.getElem?_cons_succ]; rfl) ?_
                        intro K hK
                        go_wp2
                        refine hK.out _ _ (HB9.out) ?_
                        clear hK K
                        refine chainL_alone (by simp only [List.getElem?_toArray, List.getElem?_cons_zero, List.getElem?_cons_succ]; rfl) ?_
                        intro K hK
                        go_wp2
                        refine hK.out _ _ (HB9.out) ?_
                        clear hK K
                        refine chainL_alone (by simp only [List.getElem?_toArray, List.getElem?_cons_zero, List.getElem?_cons_succ]; rfl) ?_
                        intro K hK
                        go_wp2
                        refine hK.out _ _ (HB9.out) ?_
                        clear hK K
                        refine chainL_late (by simp only [List.getElem?_toArray, List.getElem?_cons_zero, List.getElem?_cons_succ]; rfl) ?_
                        intro K hK
                        go_wp2
                        refine hK.out _ _ ?_
                        clear hK K
                        refine chainL_nil ?_
                        go_wp2
                        go_meet
                        case rel => exact ⟨by rw [HV.out], hide (HT7.out.later HB9.out), HD9⟩
                    · have HKZ : Hid (decide (0 < k) = false) := by unfold Hid; simp; omega
                      have HV : Hid (bd = false) := HBD.out.symm.trans (decide_eq_false (fun z => by rcases z.2 with q | q | q; (rw [hk] at q; cases q); (rw [HRT.out] at q; cases q); exact hk0 q.1))
                      clear hz hk hk0
                      refine wp_region_chainL (fun w' => Below w7.heap.size w7 w') 25 [(1, 0), (1, 1), (1, 2), (1, 3), (1, 4), (1, 5), (1, 6), (1, 7), (1, 8), (1, 9), (1, 10), (1, 11), (1, 12), (1, 13), (1, 14), (0, 15), (0, 16), (0, 17), (0, 18), (0, 19), (0, 20), (1, 21), (1, 22), (1, 23), (1, 24), (3, 25)] (by kernel_rfl) (by kernel_rfl) (by kernel_rfl) (fun _ _ _ _ _ h => h) ?_ ?_
                      · exact (Below.refl _ _).drewN 1
                      refine chainL_alone (by simp only [List.getElem?_toArray, List.getElem?_cons_zero]; rfl) ?_
                      intro K hK
                      go_wp2
                      refine hK.out _ _ ((Below.refl _ _).drewN 1) ?_
                      clear hK K
                      refine chainL_alone (by simp only [List.getElem?_toArray, List.getElem?_cons_zero, List.getElem?_cons_succ]; rfl) ?_
                      intro K hK
                      go_wp2
                      refine hK.out _ _ ((Below.refl _ _).drewN 1) ?_
                      clear hK K
                      refine chainL_alone (by simp only [List.getElem?_toArray, List.getElem?_cons_zero, List.getElem?_cons_succ]; rfl) ?_
                      intro K hK
                      go_wp2
                      refine hK.out _ _ ((Below.refl _ _).drewN 1) ?_
                      clear hK K
                      refine chainL_alone (by simp only [List.getElem?_toArray, List.getElem?_cons_zero, List.getElem?_cons_succ]; rfl) ?_
                      intro K hK
                      go_wp2
                      refine hK.out _ _ ((Below.refl _ _).drewN 1) ?_
                      clear hK K
                      refine chainL_alone (by simp only [List.getElem?_toArray, List.getElem?_cons_zero, List.getElem?_cons_succ]; rfl) ?_
                      intro K hK
                      go_wp2
                      refine hK.out _ _ ((Below.refl _ _).drewN 1) ?_
                      clear hK K
                      refine chainL_alone (by simp only [List.getElem?_toArray, List.getElem?_cons_zero, List.getElem?_cons_succ]; rfl) ?_
                      intro K hK
                      go_wp2
                      rw [HNK.out]
                      refine hK.out _ _ ((Below.refl _ _).drewN 1) ?_
                      clear hK K
                      refine chainL_alone (by simp only [List.getElem?_toArray, List.getElem?_cons_zero, List.getElem?_cons_succ]; rfl) ?_
                      intro K hK
                      go_wp2
                      refine hK.out _ _ ((Below.refl _ _).drewN 1) ?_
                      clear hK K
                      refine chainL_alone (by simp only [List.getElem?_toArray, List.getElem?_cons_zero, List.getElem?_cons_succ]; rfl) ?_
                      intro K hK
                      go_wp2
                      refine hK.out _ _ ((Below.refl _ _).drewN 1) ?_
                      clear hK K
                      refine chainL_alone (by simp only [List.getElem?_toArray, List.getElem?_cons_zero, List.getElem?_cons_succ]; rfl) ?_
                      intro K hK
                      go_wp2_with fail
                      refine (rcright_any r m y d f gg b (by omega) _).mono ?_
                      rintro e w9 ⟨rfl, hb9⟩
                      rw [HRT.out]
                      have HB9 := hide (((Below.refl _ _).drewN 1).trans hb9 : Below w7.heap.size w7 w9)
                      have HD9 := hide (HD7.out.later HB9.out)
                      clear hb9 c0 c1 c2 c3 c4 c5 c6 l7
                      obtain ⟨c0, c1, c2, c3, c4, c5, c6, -⟩ := cells7 HD9.out
                      have l7 := HD9.out.lt
                      go_wp2
                      refine hK.out _ _ (HB9.out) ?_
                      clear hK K
                      refine chainL_alone (by simp only [List.getElem?_toArray, List.getElem?_cons_zero, List.getElem?_cons_succ]; rfl) ?_
                      intro K hK
                      go_wp2
                      refine hK.out _ _ (HB9.out) ?_
                      clear hK K
                      refine chainL_alone (by simp only [List.getElem?_toArray, List.getElem?_cons_zero, List.getElem?_cons_succ]; rfl) ?_
                      intro K hK
                      go_wp2
                      refine hK.out _ _ (HB9.out) ?_
                      clear hK K
                      refine chainL_alone (by simp only [List.getElem?_toArray, List.getElem?_cons_zero, List.getElem?_cons_succ]; rfl) ?_
                      intro K hK
                      go_wp2
                      refine hK.out _ _ (HB9.out) ?_
                      clear hK K
                      refine chainL_alone (by simp only [List.getElem?_toArray, List.getElem?_cons_zero, List.getElem?_cons_succ]; rfl) ?_
                      intro K hK
                      go_wp2
                      refine hK.out _ _ (HB9.out) ?_
                      clear hK K
                      refine chainL_alone (by simp only [List.getElem?_toArray, List.getElem?_cons_zero, List.getElem?_cons_succ]; rfl) ?_
                      intro K hK
                      go_wp2
                      rw [HKZ.out]
                      refine hK.out _ _ (HB9.out) ?_
                      clear hK K
                      refine chainL_alone (by simp only [List.getElem?_toArray, List.getElem?_cons_zero, List.getElem?_cons_succ]; rfl) ?_
                      intro K hK
                      go_wp2
                      refine hK.out _ _ (HB9.out) ?_
                      clear hK K
                      refine chainL_skip (by simp only [List.getElem?_toArray, List.getElem?_cons_zero, List.getElem?_cons_succ]; rfl) (by rfl) ?_
                      simp only [Act.put, List.setIfInBounds_toArray, List.set_cons_zero, List.set_cons_succ]
                      refine chainL_skip (by simp only [List.getElem?_toArray, List.getElem?_cons_zero, List.getElem?_cons_succ]; rfl) (by rfl) ?_
                      simp only [Act.put, List.setIfInBounds_toArray, List.set_cons_zero, List.set_cons_succ]
                      refine chainL_skip (by simp only [List.getElem?_toArray, List.getElem?_cons_zero, List.getElem?_cons_succ]; rfl) (by rfl) ?_
                      simp only [Act.put, List.setIfInBounds_toArray, List.set_cons_zero, List.set_cons_succ]
                      refine chainL_skip (by simp only [List.getElem?_toArray, List.getElem?_cons_zero, List.getElem?_cons_succ]; rfl) (by rfl) ?_
                      simp only [Act.put, List.setIfInBounds_toArray, List.set_cons_zero, List.set_cons_succ]
                      refine chainL_skip (by simp only [List.getElem?_toArray, List.getElem?_cons_zero, List.getElem?_cons_succ]; rfl) (by rfl) ?_
                      simp only [Act.put, List.setIfInBounds_toArray, List.set_cons_zero, List.set_cons_succ]
                      refine chainL_skip (by simp only [List.getElem?_toArray, List.getElem?_cons_zero, List.getElem?_cons_succ]; rfl) (by rfl) ?_
                      simp only [Act.put, List.setIfInBounds_toArray, List.set_cons_zero, List.set_cons_succ]
                      refine chainL_alone (by simp only [List.getElem?_toArray, List.getElem?_cons_zero, List.getElem?_cons_succ]; rfl) ?_
                      intro K hK
                      go_wp2
                      refine hK.out _ _ (HB9.out) ?_
                      clear hK K
                      refine chainL_alone (by simp only [List.getElem?_toArray, List.getElem?_cons_zero, List.getElem?_cons_succ]; rfl) ?_
                      intro K hK
                      go_wp2
                      refine hK.out _ _ (HB9.out) ?_
                      clear hK K
                      refine chainL_alone (by simp only [List.getElem?_toArray, List.getElem?_cons_zero, List.getElem?_cons_succ]; rfl) ?_
                      intro K hK
                      go_wp2
                      refine hK.out _ _ (HB9.out) ?_
                      clear hK K
                      refine chainL_alone (by simp only [List.getElem?_toArray, List.getElem?_cons_zero, List.getElem?_cons_succ]; rfl) ?_
                      intro K hK
                      go_wp2
                      refine hK.out _ _ (HB9.out) ?_
                      clear hK K
                      refine chainL_late (by simp only [List.getElem?_toArray, List.getElem?_cons_zero, List.getElem?_cons_succ]; rfl) ?_
                      intro K hK
                      go_wp2
                      refine hK.out _ _ ?_
                      clear hK K
                      refine chainL_nil ?_
                      go_wp2
                      go_meet
                      case rel => exact ⟨by rw [HV.out], hide (HT7.out.later HB9.out), HD9⟩
                  · subst hr
                    have HV : Hid (bd = true) := HBD.out.symm.trans (decide_eq_true ⟨hz, .inr (.inl HRT.out)⟩)
                    clear hz hk
                    refine wp_region_chainL (fun w' => Below w7.heap.size w7 w') 25 [(1, 0), (1, 1), (1, 2), (1, 3), (1, 4), (1, 5), (1, 6), (1, 7), (1, 8), (1, 9), (1, 10), (1, 11), (1, 12), (1, 13), (1, 14), (0, 15), (0, 16), (0, 17), (0, 18), (0, 19), (0, 20), (1, 21), (1, 22), (1, 23), (1, 24), (3, 25)] (by kernel_rfl) (by kernel_rfl) (by kernel_rfl) (fun _ _ _ _ _ h => h) ?_ ?_
                    · exact (Below.refl _ _).drewN 1
                    refine chainL_alone (by simp only [List.getElem?_toArray, List.getElem?_cons_zero]; rfl) ?_
                    intro K hK
                    go_wp2
                    refine hK.out _ _ ((Below.refl _ _).drewN 1) ?_
                    clear hK K
                    refine chainL_alone (by simp only [List.getElem?_toArray, List.getElem?_cons_zero, List.getElem?_cons_succ]; rfl) ?_
                    intro K hK
                    go_wp2
                    refine hK.out _ _ ((Below.refl _ _).drewN 1) ?_
                    clear hK K
                    refine chainL_alone (by simp only [List.getElem?_toArray, List.getElem?_cons_zero, List.getElem?_cons_succ]; rfl) ?_
                    intro K hK
                    go_wp2
                    refine hK.out _ _ ((Below.refl _ _).drewN 1) ?_
                    clear hK K
                    refine chainL_alone (by simp only [List.getElem?_toArray, List.getElem?_cons_zero, List.getElem?_cons_succ]; rfl) ?_
                    intro K hK
                    go_wp2
                    refine hK.out _ _ ((Below.refl _ _).drewN 1) ?_
                    clear hK K
                    refine chainL_alone (by simp only [List.getElem?_toArray, List.getElem?_cons_zero, List.getElem?_cons_succ]; rfl) ?_
                    intro K hK
                    go_wp2
                    refine hK.out _ _ ((Below.refl _ _).drewN 1) ?_
                    clear hK K
                    refine chainL_alone (by simp only [List.getElem?_toArray, List.getElem?_cons_zero, List.getElem?_cons_succ]; rfl) ?_
                    intro K hK
                    go_wp2
                    rw [HNK.out]
                    refine hK.out _ _ ((Below.refl _ _).drewN 1) ?_
                    clear hK K
                    refine chainL_alone (by simp only [List.getElem?_toArray, List.getElem?_cons_zero, List.getElem?_cons_succ]; rfl) ?_
                    intro K hK
                    go_wp2
                    refine hK.out _ _ ((Below.refl _ _).drewN 1) ?_
                    clear hK K
                    refine chainL_alone (by simp only [List.getElem?_toArray, List.getElem?_cons_zero, List.getElem?_cons_succ]; rfl) ?_
                    intro K hK
                    go_wp2
                    refine hK.out _ _ ((Below.refl _ _).drewN 1) ?_
                    clear hK K
                    refine chainL_alone (by simp only [List.getElem?_toArray, List.getElem?_cons_zero, List.getElem?_cons_succ]; rfl) ?_
                    intro K hK
                    go_wp2_with fail
                    refine (rcright_any r m y d f gg b (by omega) _).mono ?_
                    rintro e w9 ⟨rfl, hb9⟩
                    rw [HRT.out]
                    have HB9 := hide (((Below.refl _ _).drewN 1).trans hb9 : Below w7.heap.size w7 w9)
                    have HD9 := hide (HD7.out.later HB9.out)
                    clear hb9 c0 c1 c2 c3 c4 c5 c6 l7
                    obtain ⟨c0, c1, c2, c3, c4, c5, c6, -⟩ := cells7 HD9.out
                    have l7 := HD9.out.lt
                    go_wp2
                    refine hK.out _ _ (HB9.out) ?_
                    clear hK K
                    refine chainL_alone (by simp only [List.getElem?_toArray, List.getElem?_cons_zero, List.getElem?_cons_succ]; rfl) ?_
                    intro K hK
                    go_wp2
                    refine hK.out _ _ (HB9.out) ?_
                    clear hK K
                    refine chainL_alone (by simp only [List.getElem?_toArray, List.getElem?_cons_zero, List.getElem?_cons_succ]; rfl) ?_
                    intro K hK
                    go_wp2
                    refine hK.out _ _ (HB9.out) ?_
                    clear hK K
                    refine chainL_alone (by simp only [List.getElem?_toArray, List.getElem?_cons_zero, List.getElem?_cons_succ]; rfl) ?_
                    intro K hK
                    go_wp2
                    refine hK.out _ _ (HB9.out) ?_
                    clear hK K
                    refine chainL_alone (by simp only [List.getElem?_toArray, List.getElem?_cons_zero, List.getElem?_cons_succ]; rfl) ?_
                    intro K hK
                    go_wp2
                    refine hK.out _ _ (HB9.out) ?_
                    clear hK K
                    refine chainL_alone (by simp only [List.getElem?_toArray, List.getElem?_cons_zero, List.getElem?_cons_succ]; rfl) ?_
                    intro K hK
                    go_wp2
                    refine hK.out _ _ (HB9.out) ?_
                    clear hK K
                    refine chainL_alone (by simp only [List.getElem?_toArray, List.getElem?_cons_zero, List.getElem?_cons_succ]; rfl) ?_
                    intro K hK
                    go_wp2
                    refine hK.out _ _ (HB9.out) ?_
                    clear hK K
                    refine chainL_skip (by simp only [List.getElem?_toArray, List.getElem?_cons_zero, List.getElem?_cons_succ]; rfl) (by rfl) ?_
                    simp only [Act.put, List.setIfInBounds_toArray, List.set_cons_zero, List.set_cons_succ]
                    refine chainL_skip (by simp only [List.getElem?_toArray, List.getElem?_cons_zero, List.getElem?_cons_succ]; rfl) (by rfl) ?_
                    simp only [Act.put, List.setIfInBounds_toArray, List.set_cons_zero, List.set_cons_succ]
                    refine chainL_skip (by simp only [List.getElem?_toArray, List.getElem?_cons_zero, List.getElem?_cons_succ]; rfl) (by rfl) ?_
                    simp only [Act.put, List.setIfInBounds_toArray, List.set_cons_zero, List.set_cons_succ]
                    refine chainL_skip (by simp only [List.getElem?_toArray, List.getElem?_cons_zero, List.getElem?_cons_succ]; rfl) (by rfl) ?_
                    simp only [Act.put, List.setIfInBounds_toArray, List.set_cons_zero, List.set_cons_succ]
                    refine chainL_skip (by simp only [List.getElem?_toArray, List.getElem?_cons_zero, List.getElem?_cons_succ]; rfl) (by rfl) ?_
                    simp only [Act.put, List.setIfInBounds_toArray, List.set_cons_zero, List.set_cons_succ]
                    refine chainL_skip (by simp only [List.getElem?_toArray, List.getElem?_cons_zero, List.getElem?_cons_succ]; rfl) (by rfl) ?_
                    simp only [Act.put, List.setIfInBounds_toArray, List.set_cons_zero, List.set_cons_succ]
                    refine chainL_alone (by simp only [List.getElem?_toArray, List.getElem?_cons_zero, List.getElem?_cons_succ]; rfl) ?_
                    intro K hK
                    go_wp2
                    refine hK.out _ _ (HB9.out) ?_
                    clear hK K
                    refine chainL_alone (by simp only [List.getElem?_toArray, List.getElem?_cons_zero, List.getElem?_cons_succ]; rfl) ?_
                    intro K hK
                    go_wp2
                    refine hK.out _ _ (HB9.out) ?_
                    clear hK K
                    refine chainL_alone (by simp only [List.getElem?_toArray, List.getElem?_cons_zero, List.getElem?_cons_succ]; rfl) ?_
                    intro K hK
                    go_wp2
                    refine hK.out _ _ (HB9.out) ?_
                    clear hK K
                    refine chainL_alone (by simp only [List.getElem?_toArray, List.getElem?_cons_zero, List.getElem?_cons_succ]; rfl) ?_
                    intro K hK
                    go_wp2
                    refine hK.out _ _ (HB9.out) ?_
                    clear hK K
                    refine chainL_late (by simp only [List.getElem?_toArray, List.getElem?_cons_zero, List.getElem?_cons_succ]; rfl) ?_
                    intro K hK
                    go_wp2
                    refine hK.out _ _ ?_
                    clear hK K
                    refine chainL_nil ?_
                    go_wp2
                    go_meet
                    case rel => exact ⟨by rw [HV.out], hide (HT7.out.later HB9.out), HD9⟩
                · have HNK : Hid ((!ok) = true) := by unfold Hid; rw [hk]; rfl
                  have HV : Hid (bd = true) := HBD.out.symm.trans (decide_eq_true ⟨hz, .inl hk⟩)
                  clear hz hk
                  refine wp_region_chainL (fun w' => Below w7.heap.size w7 w') 25 [(1, 0), (1, 1), (1, 2), (1, 3), (1, 4), (1, 5), (1, 6), (1, 7), (1, 8), (1, 9), (1, 10), (1, 11), (1, 12), (1, 13), (1, 14), (0, 15), (0, 16), (0, 17), (0, 18), (0, 19), (0, 20), (1, 21), (1, 22), (1, 23), (1, 24), (3, 25)] (by kernel_rfl) (by kernel_rfl) (by kernel_rfl) (fun _ _ _ _ _ h => h) ?_ ?_
                  · exact (Below.refl _ _).drewN 1
                  refine chainL_alone (by simp only [List.getElem?_toArray, List.getElem?_cons_zero]; rfl) ?_
                  intro K hK
                  go_wp2
                  refine hK.out _ _ ((Below.refl _ _).drewN 1) ?_
                  clear hK K
                  refine chainL_alone (by simp only [List.getElem?_toArray, List.getElem?_cons_zero, List.getElem?_cons_succ]; rfl) ?_
                  intro K hK
                  go_wp2
                  refine hK.out _ _ ((Below.refl _ _).drewN 1) ?_
                  clear hK K
                  refine chainL_alone (by simp only [List.getElem?_toArray, List.getElem?_cons_zero, List.getElem?_cons_succ]; rfl) ?_
                  intro K hK
                  go_wp2
                  refine hK.out _ _ ((Below.refl _ _).drewN 1) ?_
                  clear hK K
                  refine chainL_alone (by simp only [List.getElem?_toArray, List.getElem?_cons_zero, List.getElem?_cons_succ]; rfl) ?_
                  intro K hK
                  go_wp2
                  refine hK.out _ _ ((Below.refl _ _).drewN 1) ?_
                  clear hK K
                  refine chainL_alone (by simp only [List.getElem?_toArray, List.getElem?_cons_zero, List.getElem?_cons_succ]; rfl) ?_
                  intro K hK
                  go_wp2
                  refine hK.out _ _ ((Below.refl _ _).drewN 1) ?_
                  clear hK K
                  refine chainL_alone (by simp only [List.getElem?_toArray, List.getElem?_cons_zero, List.getElem?_cons_succ]; rfl) ?_
                  intro K hK
                  go_wp2
                  rw [HNK.out]
                  refine hK.out _ _ ((Below.refl _ _).drewN 1) ?_
                  clear hK K
                  refine chainL_alone (by simp only [List.getElem?_toArray, List.getElem?_cons_zero, List.getElem?_cons_succ]; rfl) ?_
                  intro K hK
                  go_wp2
                  refine hK.out _ _ ((Below.refl _ _).drewN 1) ?_
                  clear hK K
                  refine chainL_alone (by simp only [List.getElem?_toArray, List.getElem?_cons_zero, List.getElem?_cons_succ]; rfl) ?_
                  intro K hK
                  go_wp2
                  refine hK.out _ _ ((Below.refl _ _).drewN 1) ?_
                  clear hK K
                  refine chainL_alone (by simp only [List.getElem?_toArray, List.getElem?_cons_zero, List.getElem?_cons_succ]; rfl) ?_
                  intro K hK
                  go_wp2
                  refine hK.out _ _ ((Below.refl _ _).drewN 1) ?_
                  clear hK K
                  refine chainL_alone (by simp only [List.getElem?_toArray, List.getElem?_cons_zero, List.getElem?_cons_succ]; rfl) ?_
                  intro K hK
                  go_wp2
                  refine hK.out _ _ ((Below.refl _ _).drewN 1) ?_
                  clear hK K
                  refine chainL_alone (by simp only [List.getElem?_toArray, List.getElem?_cons_zero, List.getElem?_cons_succ]; rfl) ?_
                  intro K hK
                  go_wp2
                  refine hK.out _ _ ((Below.refl _ _).drewN 1) ?_
                  clear hK K
                  refine chainL_alone (by simp only [List.getElem?_toArray, List.getElem?_cons_zero, List.getElem?_cons_succ]; rfl) ?_
                  intro K hK
                  go_wp2
                  refine hK.out _ _ ((Below.refl _ _).drewN 1) ?_
                  clear hK K
                  refine chainL_alone (by simp only [List.getElem?_toArray, List.getElem?_cons_zero, List.getElem?_cons_succ]; rfl) ?_
                  intro K hK
                  go_wp2
                  refine hK.out _ _ ((Below.refl _ _).drewN 1) ?_
                  clear hK K
                  refine chainL_alone (by simp only [List.getElem?_toArray, List.getElem?_cons_zero, List.getElem?_cons_succ]; rfl) ?_
                  intro K hK
                  go_wp2
                  refine hK.out _ _ ((Below.refl _ _).drewN 1) ?_
                  clear hK K
                  refine chainL_alone (by simp only [List.getElem?_toArray, List.getElem?_cons_zero, List.getElem?_cons_succ]; rfl) ?_
                  intro K hK
                  go_wp2
                  refine hK.out _ _ ((Below.refl _ _).drewN 1) ?_
                  clear hK K
                  refine chainL_skip (by simp only [List.getElem?_toArray, List.getElem?_cons_zero, List.getElem?_cons_succ]; rfl) (by rfl) ?_
                  simp only [Act.put, List.setIfInBounds_toArray, List.set_cons_zero, List.set_cons_succ]
                  refine chainL_skip (by simp only [List.getElem?_toArray, List.getElem?_cons_zero, List.getElem?_cons_succ]; rfl) (by rfl) ?_
                  simp only [Act.put, List.setIfInBounds_toArray, List.set_cons_zero, List.set_cons_succ]
                  refine chainL_skip (by simp only [List.getElem?_toArray, List.getElem?_cons_zero, List.getElem?_cons_succ]; rfl) (by rfl) ?_
                  simp only [Act.put, List.setIfInBounds_toArray, List.set_cons_zero, List.set_cons_succ]
                  refine chainL_skip (by simp only [List.getElem?_toArray, List.getElem?_cons_zero, List.getElem?_cons_succ]; rfl) (by rfl) ?_
                  simp only [Act.put, List.setIfInBounds_toArray, List.set_cons_zero, List.set_cons_succ]
                  refine chainL_skip (by simp only [List.getElem?_toArray, List.getElem?_cons_zero, List.getElem?_cons_succ]; rfl) (by rfl) ?_
                  simp only [Act.put, List.setIfInBounds_toArray, List.set_cons_zero, List.set_cons_succ]
                  refine chainL_skip (by simp only [List.getElem?_toArray, List.getElem?_cons_zero, List.getElem?_cons_succ]; rfl) (by rfl) ?_
                  simp only [Act.put, List.setIfInBounds_toArray, List.set_cons_zero, List.set_cons_succ]
                  refine chainL_alone (by simp only [List.getElem?_toArray, List.getElem?_cons_zero, List.getElem?_cons_succ]; rfl) ?_
                  intro K hK
                  go_wp2
                  refine hK.out _ _ ((Below.refl _ _).drewN 1) ?_
                  clear hK K
                  refine chainL_alone (by simp only [List.getElem?_toArray, List.getElem?_cons_zero, List.getElem?_cons_succ]; rfl) ?_
                  intro K hK
                  go_wp2
                  refine hK.out _ _ ((Below.refl _ _).drewN 1) ?_
                  clear hK K
                  refine chainL_alone (by simp only [List.getElem?_toArray, List.getElem?_cons_zero, List.getElem?_cons_succ]; rfl) ?_
                  intro K hK
                  go_wp2
                  refine hK.out _ _ ((Below.refl _ _).drewN 1) ?_
                  clear hK K
                  refine chainL_alone (by simp only [List.getElem?_toArray, List.getElem?_cons_zero, List.getElem?_cons_succ]; rfl) ?_
                  intro K hK
                  go_wp2
                  refine hK.out _ _ ((Below.refl _ _).drewN 1) ?_
                  clear hK K
                  refine chainL_late (by simp only [List.getElem?_toArray, List.getElem?_cons_zero, List.getElem?_cons_succ]; rfl) ?_
                  intro K hK
                  go_wp2
                  refine hK.out _ _ ?_
                  clear hK K
                  refine chainL_nil ?_
                  go_wp2
                  go_meet
                  case rel => exact ⟨by rw [HV.out], hide (HT7.out.later ((Below.refl _ _).drewN 1)), hide (HD7.out.later ((Below.refl _ _).drewN 1))⟩
              · have e1 : (Eb == 0) = false := by simpa using hz
                have HV : Hid (bd = false) := HBD.out.symm.trans (decide_eq_false (fun z => hz z.1))
                clear hz
                refine wp_region_chainL (fun w' => Below w7.heap.size w7 w') 25 [(1, 0), (1, 1), (1, 2), (1, 3), (1, 4), (1, 5), (1, 6), (1, 7), (1, 8), (1, 9), (1, 10), (1, 11), (1, 12), (1, 13), (1, 14), (0, 15), (0, 16), (0, 17), (0, 18), (0, 19), (0, 20), (1, 21), (1, 22), (1, 23), (1, 24), (3, 25)] (by kernel_rfl) (by kernel_rfl) (by kernel_rfl) (fun _ _ _ _ _ h => h) ?_ ?_
                · exact (Below.refl _ _).drewN 1
                refine chainL_alone (by simp only [List.getElem?_toArray, List.getElem?_cons_zero]; rfl) ?_
                intro K hK
                go_wp2
                refine hK.out _ _ ((Below.refl _ _).drewN 1) ?_
                clear hK K
                refine chainL_alone (by simp only [List.getElem?_toArray, List.getElem?_cons_zero, List.getElem?_cons_succ]; rfl) ?_
                intro K hK
                go_wp2
                refine hK.out _ _ ((Below.refl _ _).drewN 1) ?_
                clear hK K
                refine chainL_alone (by simp only [List.getElem?_toArray, List.getElem?_cons_zero, List.getElem?_cons_succ]; rfl) ?_
                intro K hK
                go_wp2
                refine hK.out _ _ ((Below.refl _ _).drewN 1) ?_
                clear hK K
                refine chainL_alone (by simp only [List.getElem?_toArray, List.getElem?_cons_zero, List.getElem?_cons_succ]; rfl) ?_
                intro K hK
                go_wp2
                refine hK.out _ _ ((Below.refl _ _).drewN 1) ?_
                clear hK K
                refine chainL_alone (by simp only [List.getElem?_toArray, List.getElem?_cons_zero, List.getElem?_cons_succ]; rfl) ?_
                intro K hK
                go_wp2
                refine hK.out _ _ ((Below.refl _ _).drewN 1) ?_
                clear hK K
                refine chainL_alone (by simp only [List.getElem?_toArray, List.getElem?_cons_zero, List.getElem?_cons_succ]; rfl) ?_
                intro K hK
                go_wp2
                refine hK.out _ _ ((Below.refl _ _).drewN 1) ?_
                clear hK K
                refine chainL_alone (by simp only [List.getElem?_toArray, List.getElem?_cons_zero, List.getElem?_cons_succ]; rfl) ?_
                intro K hK
                go_wp2
                refine hK.out _ _ ((Below.refl _ _).drewN 1) ?_
                clear hK K
                refine chainL_alone (by simp only [List.getElem?_toArray, List.getElem?_cons_zero, List.getElem?_cons_succ]; rfl) ?_
                intro K hK
                go_wp2
                refine hK.out _ _ ((Below.refl _ _).drewN 1) ?_
                clear hK K
                refine chainL_alone (by simp only [List.getElem?_toArray, List.getElem?_cons_zero, List.getElem?_cons_succ]; rfl) ?_
                intro K hK
                go_wp2
                refine hK.out _ _ ((Below.refl _ _).drewN 1) ?_
                clear hK K
                refine chainL_alone (by simp only [List.getElem?_toArray, List.getElem?_cons_zero, List.getElem?_cons_succ]; rfl) ?_
                intro K hK
                go_wp2
                refine hK.out _ _ ((Below.refl _ _).drewN 1) ?_
                clear hK K
                refine chainL_alone (by simp only [List.getElem?_toArray, List.getElem?_cons_zero, List.getElem?_cons_succ]; rfl) ?_
                intro K hK
                go_wp2
                refine hK.out _ _ ((Below.refl _ _).drewN 1) ?_
                clear hK K
                refine chainL_alone (by simp only [List.getElem?_toArray, List.getElem?_cons_zero, List.getElem?_cons_succ]; rfl) ?_
                intro K hK
                go_wp2
                refine hK.out _ _ ((Below.refl _ _).drewN 1) ?_
                clear hK K
                refine chainL_alone (by simp only [List.getElem?_toArray, List.getElem?_cons_zero, List.getElem?_cons_succ]; rfl) ?_
                intro K hK
                go_wp2
                refine hK.out _ _ ((Below.refl _ _).drewN 1) ?_
                clear hK K
                refine chainL_alone (by simp only [List.getElem?_toArray, List.getElem?_cons_zero, List.getElem?_cons_succ]; rfl) ?_
                intro K hK
                go_wp2
                refine hK.out _ _ ((Below.refl _ _).drewN 1) ?_
                clear hK K
                refine chainL_alone (by simp only [List.getElem?_toArray, List.getElem?_cons_zero, List.getElem?_cons_succ]; rfl) ?_
                intro K hK
                go_wp2
                refine hK.out _ _ ((Below.refl _ _).drewN 1) ?_
                clear hK K
                refine chainL_skip (by simp only [List.getElem?_toArray, List.getElem?_cons_zero, List.getElem?_cons_succ]; rfl) (by rfl) ?_
                simp only [Act.put, List.setIfInBounds_toArray, List.set_cons_zero, List.set_cons_succ]
                refine chainL_skip (by simp only [List.getElem?_toArray, List.getElem?_cons_zero, List.getElem?_cons_succ]; rfl) (by rfl) ?_
                simp only [Act.put, List.setIfInBounds_toArray, List.set_cons_zero, List.set_cons_succ]
                refine chainL_skip (by simp only [List.getElem?_toArray, List.getElem?_cons_zero, List.getElem?_cons_succ]; rfl) (by rfl) ?_
                simp only [Act.put, List.setIfInBounds_toArray, List.set_cons_zero, List.set_cons_succ]
                refine chainL_skip (by simp only [List.getElem?_toArray, List.getElem?_cons_zero, List.getElem?_cons_succ]; rfl) (by rfl) ?_
                simp only [Act.put, List.setIfInBounds_toArray, List.set_cons_zero, List.set_cons_succ]
                refine chainL_skip (by simp only [List.getElem?_toArray, List.getElem?_cons_zero, List.getElem?_cons_succ]; rfl) (by rfl) ?_
                simp only [Act.put, List.setIfInBounds_toArray, List.set_cons_zero, List.set_cons_succ]
                refine chainL_skip (by simp only [List.getElem?_toArray, List.getElem?_cons_zero, List.getElem?_cons_succ]; rfl) (by rfl) ?_
                simp only [Act.put, List.setIfInBounds_toArray, List.set_cons_zero, List.set_cons_succ]
                refine chainL_alone (by simp only [List.getElem?_toArray, List.getElem?_cons_zero, List.getElem?_cons_succ]; rfl) ?_
                intro K hK
                go_wp2
                refine hK.out _ _ ((Below.refl _ _).drewN 1) ?_
                clear hK K
                refine chainL_alone (by simp only [List.getElem?_toArray, List.getElem?_cons_zero, List.getElem?_cons_succ]; rfl) ?_
                intro K hK
                go_wp2
                refine hK.out _ _ ((Below.refl _ _).drewN 1) ?_
                clear hK K
                refine chainL_alone (by simp only [List.getElem?_toArray, List.getElem?_cons_zero, List.getElem?_cons_succ]; rfl) ?_
                intro K hK
                go_wp2
                refine hK.out _ _ ((Below.refl _ _).drewN 1) ?_
                clear hK K
                refine chainL_alone (by simp only [List.getElem?_toArray, List.getElem?_cons_zero, List.getElem?_cons_succ]; rfl) ?_
                intro K hK
                go_wp2
                refine hK.out _ _ ((Below.refl _ _).drewN 1) ?_
                clear hK K
                refine chainL_late (by simp only [List.getElem?_toArray, List.getElem?_cons_zero, List.getElem?_cons_succ]; rfl) ?_
                intro K hK
                go_wp2
                refine hK.out _ _ ?_
                clear hK K
                refine chainL_nil ?_
                go_wp2
                go_meet
                case rel => exact ⟨by rw [HV.out], hide (HT7.out.later ((Below.refl _ _).drewN 1)), hide (HD7.out.later ((Below.refl _ _).drewN 1))⟩
            case rest =>
              obtain ⟨hv, HTc, HDc⟩ := hcut
              subst hv
              clear HT7 HD7 r0 r1 r2 rz0 rz1 rz2 rl c0 c1 c2 c3 c4 c5 c6 l7 HT HT4
              have r0 := HTc.out.r1.cell 0
              have r1 := HTc.out.r1.cell 1
              have r2 := HTc.out.r1.cell 2
              have rz0 := HTc.out.r1.frozen 0
              have rz1 := HTc.out.r1.frozen 1
              have rz2 := HTc.out.r1.frozen 2
              have rl := HTc.out.r1.lt
              simp only [List.getElem?_cons_zero, List.getElem?_cons_succ] at r0 r1 r2
              go_upto_if 75 with fail
              go_cut [76] from 17 to 90 (fun _ wx => Hid (Tn w wx a n c Tb Ec (.slice A0 ln cp) out) ∧ Hid (Whole wx q9 118 [.int .i64 r, .int .i64 m, .int .i64 y, .int .u8 (d : Int), .int .u8 (f : Int), .int .u8 (gg : Int), .int .u8 (b : Int)]))
              case first =>
                rcases Bool.eq_false_or_eq_true bd with hk' | hk'
                · have HK := hide hk'
                  rw [hk']
                  clear hk'
                  go_wp2
                  go_meet
                  case rel =>
                    have e3 := HEC.out
                    rw [if_pos (of_decide_eq_true (HBD.out.trans HK.out))] at e3
                    rw [← e3]
                    exact ⟨HTc.out.putE 3, whole_put HDc.out (by have := HQ6.out; omega) _⟩
                · have HK := hide hk'
                  rw [hk']
                  clear hk'
                  go_wp2
                  go_meet
                  case rel =>
                    have e3 := HEC.out
                    rw [if_neg (of_decide_eq_false (HBD.out.trans HK.out))] at e3
                    rw [← e3]
                    exact ⟨HTc, HDc⟩
              case rest =>
                obtain ⟨HT8, HD8⟩ := hcut
                clear HTc HDc r0 r1 r2 rz0 rz1 rz2 rl
                go_wp2
                go_loopw [4, 11] (fun v j wr => ∃ i : Nat, i ≤ KK ∧ j = .int .i64 i ∧ Hid (i = 0 ∨ Ec = 0) ∧ Hid (Tn w wr a n c Tb Ec v (out ++ List.replicate i ⟨r, m, y, d, ⟨f, gg, b⟩⟩)) ∧ Hid (Whole wr q9 118 [.int .i64 r, .int .i64 m, .int .i64 y, .int .u8 (d : Int), .int .u8 (f : Int), .int .u8 (gg : Int), .int .u8 (b : Int)]) ∧ Hid (∀ g, v.ownBlock = some g → g ≠ q9)) (fun _ j _ => KK - (intOf j).toNat)
                case atStart => exact ⟨0, Nat.zero_le _, rfl, .inl rfl, by unfold Hid; rw [List.replicate_zero, List.append_nil]; exact HT8.out, HD8, HF6⟩
                case round =>
                  obtain ⟨i, hi', rfl, HEi, HTi, HDi, HFi⟩ := hrel
                  have r0 := HTi.out.r1.cell 0
                  have r1 := HTi.out.r1.cell 1
                  have r2 := HTi.out.r1.cell 2
                  have rz0 := HTi.out.r1.frozen 0
                  have rz1 := HTi.out.r1.frozen 1
                  have rz2 := HTi.out.r1.frozen 2
                  have rl := HTi.out.r1.lt
                  simp only [List.getElem?_cons_zero, List.getElem?_cons_succ] at r0 r1 r2
                  by_cases hlt2 : i < KK
                  · by_cases hc0 : Ec = 0
                    · have e1 : (Ec == 0) = true := by simpa using hc0
                      have HC0 := hide hc0
                      clear hc0
                      obtain ⟨c0, c1, c2, c3, c4, c5, c6, -⟩ := cells7 HDi.out
                      have l7 := HDi.out.lt
                      go_wp2_with (at_builtin; refine stopw ?_)
                      unfold Hid
                      refine wpList_pushT ⟨r, m, y, d, ⟨f, gg, b⟩⟩ rfl _ _ rfl rfl rfl HTi.out HDi.out HFi.out (by rw [List.length_append, List.length_replicate, HLN.out]; omega) ?_
                      intro v' w9 ht9 hd9 hf9
                      have HT9 : Hid (Tn w w9 a n c Tb Ec v' (out ++ List.replicate (i + 1) ⟨r, m, y, d, ⟨f, gg, b⟩⟩)) := by unfold Hid; rw [List.replicate_succ', ← List.append_assoc]; exact ht9
                      have HD9 : Hid (Whole w9 q9 118 [.int .i64 r, .int .i64 m, .int .i64 y, .int .u8 (d : Int), .int .u8 (f : Int), .int .u8 (gg : Int), .int .u8 (b : Int)]) := hd9
                      have HF9 := hide hf9
                      clear ht9 hd9 hf9
                      go_wp2
                      go_roundw
                      case rel => exact ⟨i + 1, by omega, by go_num, .inr HC0.out, HT9, HD9, HF9⟩
                      case measure => simp [intOf]; omega
                    · have e1 : (Ec == 0) = false := by simpa using hc0
                      obtain rfl : i = 0 := by rcases HEi.out with q | q; exact q; exact absurd q hc0
                      have HN : Hid (loopD xs (T1, E1) (k + 1) = ((Tb, Ec), out)) := by have := HNX.out; rw [if_neg hc0] at this; exact this
                      have HT9 : Hid (Tn w wr a n c Tb Ec u4 out) := by have := HTi.out; rw [List.replicate_zero, List.append_nil] at this; exact this
                      clear hc0
                      go_wp2
                      go_roundw
                      case rel => exact ⟨k + 1, by omega, by go_num, by rw [HN.out]; exact HT9⟩
                      case measure => simp [intOf]; omega
                  · obtain rfl : i = KK := by omega
                    have HN : Hid (loopD xs (T1, E1) (k + 1) = ((Tb, Ec), out ++ List.replicate i ⟨r, m, y, d, ⟨f, gg, b⟩⟩)) := by
                      have := HNX.out
                      by_cases q : Ec = 0
                      · rw [if_pos q] at this
                        exact this
                      · obtain rfl : i = 0 := by rcases HEi.out with z | z; exact z; exact absurd z q
                        rw [if_neg q] at this
                        rw [List.replicate_zero, List.append_nil]
                        exact this
                    go_wp2
                    go_roundw
                    case rel => exact ⟨k + 1, by omega, by go_num, by rw [HN.out]; exact HTi⟩
                    case measure => simp [intOf]; omega
      · have hE2 : (E2 == 0) = false := by simpa using hE
        have HF : Hid (takeD xs (T0, E0) = ((T2, E2), [])) := by
          have := take_err (j := k) HU.out (by rw [Int.toNat_natCast]; omega) (by rw [HX.out]; exact hE)
          rw [HX.out] at this
          exact this
        have hEn : (E2 != 0) = true := by simpa using hE
        clear hE
        have a0 := HT.out.r2.cell 0
        have a1 := HT.out.r2.cell 1
        have a2 := HT.out.r2.cell 2
        have az0 := HT.out.r2.frozen 0
        have az1 := HT.out.r2.frozen 1
        have az2 := HT.out.r2.frozen 2
        have al := HT.out.r2.lt
        simp only [List.getElem?_cons_zero, List.getElem?_cons_succ] at a0 a1 a2
        go_wp2
        refine ret46 rfl rfl rfl rfl (((HT.out.r2.put 0 _).put 1 _).put 2 _) ?_
        exact ⟨none, 0, by rw [HF.out]; rfl, by rw [HF.out]; exact .nil, by rw [HF.out]; exact ⟨Nat.le_refl _, fun _ => rfl⟩, ((HT.out.bel.setCell (p := ⟨w.heap.size + 1, 0, none⟩) (by show w.heap.size ≤ w.heap.size + 1; omega) _).setCell (p := ⟨w.heap.size + 1, 1, none⟩) (by show w.heap.size ≤ w.heap.size + 1; omega) _).setCell (p := ⟨w.heap.size + 1, 2, none⟩) (by show w.heap.size ≤ w.heap.size + 1; omega) _⟩
    · obtain rfl : k = N := by omega
      by_cases hE : E2 = 0
      · have hE2 : (E2 == 0) = true := by simpa using hE
        have HF : Hid (takeD xs (T0, E0) = ((T2, E2), out)) := by
          have := take_fin (s0 := (T1, E1)) HU.out (by rw [Int.toNat_natCast, HX.out]; exact hE)
          rw [Int.toNat_natCast, HX.out] at this
          exact this
        have hEn : (E2 != 0) = false := by simpa using hE
        clear hE
        have a0 := HT.out.r2.cell 0
        have a1 := HT.out.r2.cell 1
        have a2 := HT.out.r2.cell 2
        have az0 := HT.out.r2.frozen 0
        have az1 := HT.out.r2.frozen 1
        have az2 := HT.out.r2.frozen 2
        have al := HT.out.r2.lt
        simp only [List.getElem?_cons_zero, List.getElem?_cons_succ] at a0 a1 a2
        obtain ⟨A9, c9, hv9, hc9, hl9, hn9, -⟩ := (((HT.out.ov.low (q := w.heap.size + 1) (by omega) 0 (.slice a n c)).low (q := w.heap.size + 1) (by omega) 1 (.int .i64 (T2 : Int))).low (q := w.heap.size + 1) (by omega) 2 (.int .i64 E2)).typed (C := 0)
        have HC9 := hide hc9
        have HL9 := hide (And.intro hl9 hn9)
        clear hc9 hl9 hn9
        subst hv9
        go_wp2
        refine ret46 rfl rfl rfl rfl (((HT.out.r2.put 0 _).put 1 _).put 2 _) ?_
        exact ⟨A9, c9, by rw [HF.out]; rfl, by rw [HF.out]; exact HC9.out, by rw [HF.out]; exact HL9.out, ((HT.out.bel.setCell (p := ⟨w.heap.size + 1, 0, none⟩) (by show w.heap.size ≤ w.heap.size + 1; omega) _).setCell (p := ⟨w.heap.size + 1, 1, none⟩) (by show w.heap.size ≤ w.heap.size + 1; omega) _).setCell (p := ⟨w.heap.size + 1, 2, none⟩) (by show w.heap.size ≤ w.heap.size + 1; omega) _⟩
      · have hE2 : (E2 == 0) = false := by simpa using hE
        have HF : Hid (takeD xs (T0, E0) = ((T2, E2), [])) := by
          have := take_err (j := k) HU.out (by rw [Int.toNat_natCast]; omega) (by rw [HX.out]; exact hE)
          rw [HX.out] at this
          exact this
        have hEn : (E2 != 0) = true := by simpa using hE
        clear hE
        have a0 := HT.out.r2.cell 0
        have a1 := HT.out.r2.cell 1
        have a2 := HT.out.r2.cell 2
        have az0 := HT.out.r2.frozen 0
        have az1 := HT.out.r2.frozen 1
        have az2 := HT.out.r2.frozen 2
        have al := HT.out.r2.lt
        simp only [List.getElem?_cons_zero, List.getElem?_cons_succ] at a0 a1 a2
        go_wp2
        refine ret46 rfl rfl rfl rfl (((HT.out.r2.put 0 _).put 1 _).put 2 _) ?_
        exact ⟨none, 0, by rw [HF.out]; rfl, by rw [HF.out]; exact .nil, by rw [HF.out]; exact ⟨Nat.le_refl _, fun _ => rfl⟩, ((HT.out.bel.setCell (p := ⟨w.heap.size + 1, 0, none⟩) (by show w.heap.size ≤ w.heap.size + 1; omega) _).setCell (p := ⟨w.heap.size + 1, 1, none⟩) (by show w.heap.size ≤ w.heap.size + 1; omega) _).setCell (p := ⟨w.heap.size + 1, 2, none⟩) (by show w.heap.size ≤ w.heap.size + 1; omega) _⟩
end
end Go.Proofs.YtcbdokocnjoilaaDoor
