/-
  Contracts and plain mathematics of RnTake5, RnRef4, RnParse, RnIn, Laid, RnP0, GBase, GRef.
-/
import Derived.Test.YtcbdokocnjoilaaGreatDoorH11
import Derived.Test.YtcbdokocnjoilaaGreatDoorH5
import Derived.Test.YtcbdokocnjoilaaGreatDoorH12
import Derived.Test.YtcbdokocnjoilaaGreatDoorH7
import Derived.Test.YtcbdokocnjoilaaGreatDoorH4
import Derived.Test.YtcbdokocnjoilaaGreatDoorH9
import Derived.Test.YtcbdokocnjoilaaGreatDoorH3
import Derived.LaidMore
import Derived.Deep.Strs
import Derived.Stop.Joined
import Derived.Test.YtcbdokocnjoilaaGreatDoorH6
namespace Go.Proofs.YtcbdokocnjoilaaGreatDoor
set_option maxRecDepth 100000
set_option linter.unusedVariables false
set_option maxHeartbeats 8000000
section
open Go.ChangeShapes Go.WideShapes Go.ChangeAt Go.RowKit
/-- 'append(row, src...)', src whatever; what it left. -/
theorem wpList_catCG {P : Program} {S e : TypeId} {k : IntKind} {bytes : Nat} (E : ElemC P S e k bytes) {ops : Array Oper} {rest : List Oper} {o : Oper} {a : Act} {Q : Exit → Act → World → Prop} {B : Nat} {w wr : World} {v : Value} {cs ns : List Cel} {A : Option Addr} {n c : Nat}
    (hgd : Region.wanted o (yielded ops a.tmps) = true) (s y : Operand) (ho : o.op = .call { callee := .builtin .append, args := #[s, y], argTypes := #[S, S] })
    (hs : a.eval s = v) (hy : a.eval y = .slice A n c) (hown : OwnC e k B w wr v cs) (hns : Cels k wr A ns) (hn : ns.length = n) (hc : A = none → c = 0) (hlen : cs.length + n ≤ 1000000) (hby : bytes ≤ 1000)
    (h : ∀ v' w1, OwnC e k B w w1 v' (cs ++ ns) → wr.grownBy w1 v.ownBlock → wpList P ops Q rest (a.put o.dst v') w1) : wpList P ops Q (o :: rest) a wr := by
  subst hn
  obtain ⟨i0, hi, hz0, hz1, hz2⟩ := info_parts E.info
  have hb : (cs.length + ns.length) * bytes ≤ 1000000 * 1000 := Nat.mul_le_mul hlen hby
  refine wpList_want hgd fun K hK => ?_
  cases A with
  | none =>
    have hn : ns = [] := by
      rcases hns with h | ⟨_, _, h, _⟩
      · exact h
      · cases h
    subst hn
    obtain rfl : c = 0 := hc rfl
    have hrun := run_append_owned_none (P := P) (w := wr) B S o.type e i0 7 E.under hi v cs.length _ hown.own
    unfold Oper.wp
    simp [execOp, ho, resolve, invoke, builtin, hs, hy, hrun, Result.andThen]
    exact hK _ _ (h v wr (by simpa using hown) ⟨rfl, rfl, rfl, Nat.le_refl _, fun _ _ _ => rfl⟩)
  | some ad =>
    refine wp_append_own _ s y S ho B e i0 _ 7 bytes E.under hi hz0 hz1 hz2 rfl (by decide) v cs.length _ hs hown.own ad ns.length c (flatC k ns) hy (flatC_len k ns) ?_ (flatC_one k ns)
      (by unfold maxLen; omega) (by omega) hown.le ?_
    · intro j u hu
      rcases hns with rfl | ⟨b, off, e1, hcell⟩
      · simp [flatC] at hu
      · cases e1
        rw [show (⟨b, off, none⟩ : Addr).add j = ⟨b, off + j, none⟩ by unfold Addr.add; split <;> simp_all]
        exact hcell j u hu
    · intro v' w1 h1 hg _
      exact hK _ _ (h v' w1 (hown.grown h1 hg) hg)

theorem rowC_same {k : IntKind} {B : Nat} {w wr w1 : World} {v : Value} {cs : List Cel} (h : OwnC 105 k B w wr v cs) (hg : wr.grownBy w1 v.ownBlock) : ∀ (b : Nat) (cur : Array Value) (t : TypeId), t ≠ 105 → wr.heap[b]? = some (Obj.cells cur t (0, 0)) → w1.heap[b]? = wr.heap[b]? := by
  intro b cur t ht hb
  refine World.grownBy.block hg b (Array.getElem?_eq_some_iff.1 hb).1 ?_
  intro e
  rcases h.own.2 with ⟨rfl, _⟩ | ⟨g, cap, cur', rfl, _, hh, _⟩
  · simp [Value.ownBlock] at e
  · obtain rfl : b = g := by simpa [Value.ownBlock] using e
    rw [hh] at hb
    simp only [Option.some.injEq, Obj.cells.injEq] at hb
    exact ht hb.2.1.symm
theorem RdS.keepT {w w1 : World} {g : Nat} {xs : List Int} {s : Nat × Int} (h : RdS w g xs s) (hk : ∀ (b : Nat) (cur : Array Value) (t : TypeId), t ≠ 105 → w.heap[b]? = some (Obj.cells cur t (0, 0)) → w1.heap[b]? = w.heap[b]?) : RdS w1 g xs s := by
  obtain ⟨t, h1, h2, h3⟩ := h
  obtain ⟨A, c, hw, hi, hc, hA⟩ := h2.ex
  exact ⟨t, h1, ⟨A, c, (hk g _ _ (by decide) hw).trans hw, hi.keep fun b cur hh => hk b cur 5 (by decide) hh, hc, hA⟩, h3⟩
theorem OwnC.now {e : TypeId} {k : IntKind} {B : Nat} {w wr : World} {v : Value} {cs : List Cel} (h : OwnC e k B w wr v cs) : OwnC e k B wr wr v cs := ⟨h.own, Below.refl _ _, h.le⟩
theorem OwnC.keepO {e : TypeId} {k : IntKind} {B g : Nat} {w wr w1 : World} {v : Value} {cs : List Cel} (h : OwnC e k B w wr v cs) (ho : Only g wr w1) (hg : g < B) : OwnC e k B w1 w1 v cs := by
  refine ⟨⟨h.own.1, ?_⟩, Below.refl _ _, Nat.le_trans h.le ho.size⟩
  rcases h.own.2 with h0 | ⟨g', cap, cur, hv, hB, hh, h1⟩
  · exact .inl h0
  · exact .inr ⟨g', cap, cur, hv, hB, (World.grownBy.block ho g' (Array.getElem?_eq_some_iff.1 hh).1 (fun e => by cases e; omega)).trans hh, h1⟩
theorem only_belowB {g B : Nat} {w wr w1 : World} (h : Only g w wr) (hb : Below B wr w1) (hB : w.heap.size ≤ B) : Only g w w1 :=
  ⟨hb.os.trans h.os, hb.tape.trans h.tape, hb.output.trans h.output, Nat.le_trans h.size hb.size, fun i hi hne => (hb.block i (by omega)).trans (h.block i hi hne)⟩
theorem Spans.low {B : Nat} {w w' : World} (h : Spans w) (hb : Below B w w') (hB : 0 < B) : Spans w' := fun j v hv => by
  rw [← h j v hv]
  exact hb.cell (p := ⟨0, _, none⟩) hB

theorem stepP {xs : List Int} {i : Nat} {s a1 st1 : Nat × Int} {V E : Int} {T : Nat} {out : List Cel} {c : Cel} {ok : Bool} (ha : upD xs s (512 - (out.length : Int)) 6 = (a1, V)) (hs1 : (if a1.2 = 0 ∧ V = 0 then (a1.1, (3 : Int)) else a1) = st1) (hc : oneD xs st1 = ((T, E), c, ok)) :
    stepD xs i (s, out) = ((T, if E = 0 ∧ (ok = false ∨ rightC c = false ∨ 0 < i ∧ cAt out (out.length - 1) = c) then 3 else E), if (if E = 0 ∧ (ok = false ∨ rightC c = false ∨ 0 < i ∧ cAt out (out.length - 1) = c) then (3 : Int) else E) = 0 then out ++ List.replicate V.toNat c else out) := by
  unfold stepD
  simp only [ha, hs1, hc]
  by_cases q : E = 0 ∧ (ok = false ∨ rightC c = false ∨ 0 < i ∧ cAt out (out.length - 1) = c)
  · simp only [if_pos q]
  · simp only [if_neg q]
theorem dup_yes {T : Nat} {E : Int} {c : Cel} {ok : Bool} {i : Nat} {out : List Cel} (h : 0 < i ∧ cAt out (out.length - 1) = c) : fEr (oneS ((T, E), c, ok)).2 3 = (if E = 0 ∧ (ok = false ∨ rightC c = false ∨ 0 < i ∧ cAt out (out.length - 1) = c) then 3 else E) := by
  unfold oneS fEr
  simp only [h, and_self, or_true, and_true]
  by_cases q : E = 0
  · by_cases p : ok = false ∨ rightC c = false
    · simp [q, p]
    · simp [q, p]
  · simp [q]
theorem dup_no {T : Nat} {E : Int} {c : Cel} {ok : Bool} {i : Nat} {out : List Cel} (h : ¬ (0 < i ∧ cAt out (out.length - 1) = c)) : (oneS ((T, E), c, ok)).2 = (if E = 0 ∧ (ok = false ∨ rightC c = false ∨ 0 < i ∧ cAt out (out.length - 1) = c) then 3 else E) := by
  unfold oneS
  simp only [h, or_false]
theorem loop_stays {xs : List Int} {s : Nat × Int} {j : Nat} (h : (loopD xs s j).1.2 ≠ 0) : ∀ m, loopD xs s (j + m) = loopD xs s j := by
  intro m
  induction m with
  | zero => rfl
  | succ m ih =>
    have u : loopD xs s (j + m + 1) = if (loopD xs s (j + m)).1.2 = 0 then stepD xs (j + m) (loopD xs s (j + m)) else loopD xs s (j + m) := rfl
    rw [← Nat.add_assoc, u, ih, if_neg h]
theorem loop_succ {xs : List Int} {s : Nat × Int} {j : Nat} (h : (loopD xs s j).1.2 = 0) : loopD xs s (j + 1) = stepD xs j (loopD xs s j) := by
  show (if (loopD xs s j).1.2 = 0 then stepD xs j (loopD xs s j) else loopD xs s j) = _
  rw [if_pos h]
/-- What Take leaves. -/
def TakeS (g : Nat) (w : World) (xs : List Int) (x : (Nat × Int) × List Cel) (e : Ending) (w' : World) : Prop := ∃ A c, e = .returned (.slice A x.2.length c) ∧ CelsT 0 105 .i32 w' A x.2 ∧ (x.2.length ≤ c ∧ (A = none → c = 0)) ∧ Only g w w' ∧ RdS w' g xs x.1
theorem take_err {xs : List Int} {s s0 : Nat × Int} {V : Int} {j : Nat} (h0 : upD xs s 512 6 = (s0, V)) (hj : j ≤ V.toNat) (he : (loopD xs s0 j).1.2 ≠ 0) : takeD xs s = ((loopD xs s0 j).1, []) := by
  unfold takeD
  simp only [h0]
  obtain ⟨m, hm⟩ : ∃ m, V.toNat = j + m := ⟨V.toNat - j, by omega⟩
  rw [hm, loop_stays he m, if_neg he]
theorem take_fin {xs : List Int} {s s0 : Nat × Int} {V : Int} (h0 : upD xs s 512 6 = (s0, V)) (he : (loopD xs s0 V.toNat).1.2 = 0) : takeD xs s = loopD xs s0 V.toNat := by
  unfold takeD
  simp only [h0]
  rw [if_pos he]
theorem one_err {xs : List Int} {s : Nat × Int} {T : Nat} {E : Int} {c : Cel} {ok : Bool} (hb : Byte xs) (h : oneD xs s = ((T, E), c, ok)) (hE : E = 0) (hok : ok = true) : s.2 = 0 := by
  have := (one_back (xs := xs) (s := s) hb (by rw [h]; exact hE) (by rw [h]; exact hok)).1
  exact this
theorem loop_len {xs : List Int} {s : Nat × Int} (hb : Byte xs) (j : Nat) (h : (loopD xs s j).1.2 = 0) : (loopD xs s j).2.length ≤ 512 ∧ (0 < j → 0 < (loopD xs s j).2.length) := by
  obtain ⟨-, rs, h1, h2, -, h4, h5, -⟩ := loop_back hb j h
  rw [h4]
  refine ⟨h5, fun hj => ?_⟩
  cases rs with
  | nil => simp at h1; omega
  | cons x rs =>
    have := fine_one h2
    rw [expand_cons]
    simp
    omega

theorem take_s (g : Nat) (xs : List Int) (s : Nat × Int) (w : World) (h : RdS w g xs s) (hb : Byte xs) (hl : xs.length ≤ 1000000) (hS : Spans w) :
    Calls Tryz.prog 89 #[.pointer (some ⟨g, 0, none⟩)] w (TakeS g w xs (takeD xs s)) := by
  have KEY := hide (some_s g xs s 512 w h hb hl (by omega))
  have HG := hide h.lt
  have HGZ := hide (spans_rd hS h)
  have HS0 := hide hS
  obtain ⟨v0, v1⟩ := upD_bd (xs := xs) (s := s) (most := 512) (er := 6) hb (by omega)
  have hz := upD_zero (xs := xs) (s := s) (most := 512) (er := 6) hb
  obtain ⟨⟨s0, V⟩, hU⟩ : ∃ U, upD xs s 512 6 = U := ⟨_, rfl⟩
  rw [hU] at KEY v0 v1 hz
  simp only at KEY v0 v1 hz
  obtain ⟨N, rfl⟩ : ∃ N : Nat, V = (N : Int) := ⟨V.toNat, by omega⟩
  have HU := hide hU
  have HZ : Hid (0 < N → s0.2 = 0) := fun hp => by
    by_cases q : s0.2 = 0
    · exact q
    · have := hz q; omega
  obtain ⟨B, hB⟩ : ∃ B, w.heap.size = B := ⟨_, rfl⟩
  have HGB : Hid (g < B) := by unfold Hid; rw [← hB]; exact HG.out
  have HB := hide hB
  have H0B : Hid (0 < B) := by unfold Hid; rw [← hB]; exact hS.size
  clear h hS hU hz hB
  go_enter Tryz.func89, Tryz.ntmps89
  go_wp2_with fail
  refine KEY.out.mono ?_
  rintro e w1 ⟨rfl, ho1, hr1⟩
  have HO1 := hide ho1
  have HR1 := hide hr1
  have HS1 := hide (ho1.spans HS0.out HGZ.out)
  have HL1 : Hid (B ≤ w1.heap.size) := by unfold Hid; rw [← HB.out]; exact ho1.size
  clear ho1 hr1
  go_wp2
  go_loopw [3, 8] (fun v i wr => ∃ k : Nat, k ≤ N ∧ i = .int .i64 k ∧ Hid (k = 0 ∨ (loopD xs s0 k).1.2 = 0) ∧ Hid (RdS wr g xs (loopD xs s0 k).1) ∧ Hid (OwnC 105 .i32 B wr wr v (loopD xs s0 k).2) ∧ Hid (Only g w wr) ∧ Hid (Spans wr)) (fun _ i _ => N - (intOf i).toNat)
  case atStart => exact ⟨0, Nat.zero_le _, rfl, .inl rfl, HR1, OwnC.start HL1.out, HO1, HS1⟩
  case round =>
    obtain ⟨k, hk, rfl, HE, HR, HV, HO, HS⟩ := hrel
    by_cases hlt : k < N
    · have he : (loopD xs s0 k).1.2 = 0 := by
        rcases HE.out with rfl | z
        · exact HZ.out (by omega)
        · exact z
      obtain ⟨hlen, hpos⟩ := loop_len hb k he
      have HSU := hide (loop_succ he)
      obtain ⟨⟨s2, out⟩, hX⟩ : ∃ X, loopD xs s0 k = X := ⟨_, rfl⟩
      have HX := hide hX
      rw [hX] at HR HV HSU hlen hpos
      simp only at HR HV HSU hlen hpos
      obtain ⟨ln, hln⟩ : ∃ ln, out.length = ln := ⟨_, rfl⟩
      have HLN := hide hln
      obtain ⟨A0, cp, rfl, -, -, -, hcm⟩ : ∃ A0 cp, u3 = .slice A0 ln cp ∧ True ∧ True ∧ True ∧ cp ≤ maxLen := by
        obtain ⟨A0, cp, e, _, _, _, hm⟩ := HV.out.form
        exact ⟨A0, cp, by rw [e, hln], trivial, trivial, trivial, hm⟩
      obtain ⟨⟨a1, VV⟩, hA⟩ : ∃ U, upD xs s2 (512 - (out.length : Int)) 6 = U := ⟨_, rfl⟩
      obtain ⟨w0', w1'⟩ := upD_bd (xs := xs) (s := s2) (most := 512 - (out.length : Int)) (er := 6) hb (by omega)
      rw [hA] at w0' w1'
      simp only at w0' w1'
      obtain ⟨KK, rfl⟩ : ∃ KK : Nat, VV = (KK : Int) := ⟨VV.toNat, by omega⟩
      obtain ⟨st1, hST⟩ : ∃ st1, (if a1.2 = 0 ∧ (KK : Int) = 0 then (a1.1, (3 : Int)) else a1) = st1 := ⟨_, rfl⟩
      obtain ⟨⟨⟨T, E⟩, ⟨r, m, y, d, ⟨f, gg, b⟩⟩, ok⟩, hCC⟩ : ∃ U, oneD xs st1 = U := ⟨_, rfl⟩
      have hstep := stepP (i := k) hA hST hCC
      rw [hln] at hA hlen hpos w1'
      have hk0 : k = 0 → ln = 0 := by
        rintro rfl
        have : (loopD xs s0 0).2 = [] := rfl
        rw [HX.out] at this
        rw [← HLN.out, show out = [] from this]
        rfl
      rcases Nat.eq_zero_or_pos ln with hl0 | hl0
      · subst hl0
        have hkz : k = 0 := by
          rcases Nat.eq_zero_or_pos k with z | z
          · exact z
          · have := hpos z; omega
        have hnd : ¬ (0 < k ∧ cAt out (out.length - 1) = ⟨r, m, y, d, ⟨f, gg, b⟩⟩) := fun z => by omega
        have hst := dup_no (T := T) (E := E) (ok := ok) hnd
        obtain ⟨e2, he2⟩ : ∃ e2, (if E = 0 ∧ (ok = false ∨ rightC ⟨r, m, y, d, ⟨f, gg, b⟩⟩ = false ∨ 0 < k ∧ cAt out (out.length - 1) = ⟨r, m, y, d, ⟨f, gg, b⟩⟩) then (3 : Int) else E) = e2 := ⟨_, rfl⟩
        rw [he2] at hst hstep
        by_cases hz2 : e2 = 0
        · have hgood : E = 0 ∧ ok = true := by
            by_cases q : E = 0
            · refine ⟨q, ?_⟩
              cases ok
              · rw [if_pos ⟨q, .inl rfl⟩] at he2; omega
              · rfl
            · rw [if_neg (fun z => q z.1)] at he2; omega
          have hs20 := one_err hb hCC hgood.1 hgood.2
          have hKK : 1 ≤ KK := by
            rcases Nat.eq_zero_or_pos KK with z | z
            · subst z
              by_cases q : a1.2 = 0
              · rw [if_pos ⟨q, rfl⟩] at hST
                rw [← hST] at hs20
                simp at hs20
              · rw [if_neg (fun z => q z.1)] at hST
                rw [← hST] at hs20
                exact absurd hs20 q
            · exact z
          rw [if_pos hz2, hz2, Int.toNat_natCast] at hstep
          have HNX : Hid (loopD xs s0 (k + 1) = ((T, 0), out ++ List.replicate KK ⟨r, m, y, d, ⟨f, gg, b⟩⟩)) := by unfold Hid; rw [HSU.out]; exact hstep
          have hoS : (oneS ((T, E), (⟨r, m, y, d, ⟨f, gg, b⟩⟩ : Cel), ok)) = (T, 0) := Prod.ext rfl (hst.trans hz2)
          have HOS := hide hoS
          clear hstep hst he2 hz2 hgood hs20 hoS hnd
          rw [show (512 : Int) - ((0 : Nat) : Int) = 512 from rfl] at hA
          have HA := hide hA
          have HST := hide hST
          have HCC := hide hCC
          clear hA hST hCC
          go_wp2_with fail
          refine (takeoften_s g xs s2 512 wr HR.out hb hl (by omega)).mono ?_
          rw [HA.out]
          simp only
          rw [HST.out]
          rintro e w1 ⟨rfl, ho1, hr1⟩
          have HR1 := hide hr1
          have HO1 := hide (HO.out.trans ho1)
          have HV1 := hide (HV.out.keepO ho1 HGB.out)
          have HS1 := hide (ho1.spans HS.out HGZ.out)
          clear ho1 hr1
          go_wp2_with fail
          refine (takecell_s g xs st1 w1 HR1.out hb hl HS1.out).mono ?_
          rw [HCC.out]
          rintro e w2 ⟨rfl, ho2, hr2⟩
          obtain ⟨w3, hw3⟩ : ∃ w3, w2.alloc (.cells #[.int .i32 r, .int .i32 m, .int .i32 y, .int .u8 (d : Int), .int .u8 (f : Int), .int .u8 (gg : Int), .int .u8 (b : Int)] 105) = w3 := ⟨_, rfl⟩
          have hb3 : Below w2.heap.size w2 w3 := by rw [← hw3]; exact (Below.refl _ _).alloc (Nat.le_refl _) _
          have HD3 : Hid (Whole w3 w2.heap.size 105 [.int .i32 r, .int .i32 m, .int .i32 y, .int .u8 (d : Int), .int .u8 (f : Int), .int .u8 (gg : Int), .int .u8 (b : Int)]) := by unfold Hid; rw [← hw3]; exact Whole.new w2 105 _
          have HR3 := hide (hr2.later hb3)
          have HO3 := hide (only_below (HO1.out.trans ho2) hb3)
          have HV3 := hide ((HV1.out.keepO ho2 HGB.out).later hb3).now
          have HS3 := hide ((ho2.spans HS1.out HGZ.out).below hb3)
          have HW3 := hide hw3
          have eC := @eqlCell
          clear hb3 hw3 ho2 hr2
          obtain ⟨c0, c1, c2, c3, c4, c5, c6, -⟩ := cells7 HD3.out
          have l3 := HD3.out.lt
          go_wp2
          rw [HW3.out]
          go_quiet (fail)
          obtain ⟨w4, hw4⟩ : ∃ w4, w3.drewN nq = w4 := ⟨_, rfl⟩
          rw [hw4]
          have hb4 : Below w3.heap.size w3 w4 := by rw [← hw4]; exact (Below.refl _ _).drewN _
          have HR4 := hide (HR3.out.later hb4)
          have HO4 := hide (only_below HO3.out hb4)
          have HV4 := hide (HV3.out.later hb4).now
          have HS4 := hide (HS3.out.below hb4)
          have HD4 := hide (HD3.out.later hb4)
          clear hb4 hw4 c0 c1 c2 c3 c4 c5 c6 l3
          rw [HOS.out] at HR4
          go_wp2_with fail
          refine (err_s g xs (T, 0) w4 HR4.out).mono ?_
          rintro e w9 ⟨rfl, rfl⟩
          obtain ⟨c0, c1, c2, c3, c4, c5, c6, -⟩ := cells7 HD4.out
          have l4 := HD4.out.lt
          obtain ⟨w5, hw5⟩ : ∃ w5, w4.alloc (.cells #[.int .i32 r, .int .i32 m, .int .i32 y, .int .u8 (d : Int), .int .u8 (f : Int), .int .u8 (gg : Int), .int .u8 (b : Int)] 105) = w5 := ⟨_, rfl⟩
          have hb5 : Below w4.heap.size w4 w5 := by rw [← hw5]; exact (Below.refl _ _).alloc (Nat.le_refl _) _
          have hc5 : Cels .i32 w5 (some ⟨w4.heap.size, 0, none⟩) [⟨r, m, y, d, ⟨f, gg, b⟩⟩] := by rw [← hw5]; exact (Whole.new w4 105 (flatC .i32 [⟨r, m, y, d, ⟨f, gg, b⟩⟩])).cels
          have HC5 := hide hc5
          have HB5 := hide hb5
          have HW5 := hide hw5
          clear hc5 hb5 hw5
          go_wp2_with fail
          rw [HW5.out]
          refine (repeat_any _ 1 ⟨r, m, y, d, ⟨f, gg, b⟩⟩ KK w5 HC5.out hKK (by omega)).mono ?_
          rintro e w6 ⟨g6, rfl, -, hw6, hb6⟩
          rw [List.length_replicate]
          have hb46 := HB5.out.trans (hb6.mono HB5.out.size)
          have HR6 := hide (HR4.out.later hb46)
          have HO6 := hide (only_below HO4.out hb46)
          have HV6 := hide (HV4.out.later hb46).now
          have HS6 := hide (HS4.out.below hb46)
          have HC6 := hide hw6.cels
          clear hw6 hb6 hb46 c0 c1 c2 c3 c4 c5 c6 l4
          go_wp2_with (at_builtin; refine stopw ?_)
          unfold Hid
          refine wpList_catCG elemL rfl _ _ rfl rfl rfl HV6.out HC6.out (by rw [List.length_replicate]) (by intro q; cases q) (by rw [HLN.out]; omega) (by omega) ?_
          intro v' w7 hown hgr
          have HR7 := hide (HR6.out.keepT (rowC_same HV6.out hgr))
          have HO7 := hide (only_belowB HO6.out hown.bel (Nat.le_of_eq HB.out))
          have HS7 := hide (HS6.out.low hown.bel H0B.out)
          have HV7 := hide hown.now
          clear hown hgr
          go_wp2
          go_roundw
          case rel => exact ⟨k + 1, by omega, by go_num, .inr (by rw [HNX.out]), by rw [HNX.out]; exact HR7, by rw [HNX.out]; exact HV7, HO7, HS7⟩
          case measure => simp [intOf]; omega
        · have hne2 : (e2 != 0) = true := by simpa using hz2
          have HNE := hide hne2
          rw [if_neg hz2] at hstep
          have HNIL : Hid (takeD xs s = ((T, e2), [])) := by
            unfold Hid
            have q : loopD xs s0 (k + 1) = ((T, e2), out) := by rw [HSU.out]; exact hstep
            have := take_err (j := k + 1) HU.out (by rw [Int.toNat_natCast]; omega) (by rw [q]; exact hz2)
            rw [q] at this
            exact this
          have hoS : (oneS ((T, E), (⟨r, m, y, d, ⟨f, gg, b⟩⟩ : Cel), ok)) = (T, e2) := Prod.ext rfl hst
          have HOS := hide hoS
          clear hstep hst he2 hz2 hoS hnd hne2
          rw [show (512 : Int) - ((0 : Nat) : Int) = 512 from rfl] at hA
          have HA := hide hA
          have HST := hide hST
          have HCC := hide hCC
          clear hA hST hCC
          go_wp2_with fail
          refine (takeoften_s g xs s2 512 wr HR.out hb hl (by omega)).mono ?_
          rw [HA.out]
          simp only
          rw [HST.out]
          rintro e w1 ⟨rfl, ho1, hr1⟩
          have HR1 := hide hr1
          have HO1 := hide (HO.out.trans ho1)
          have HV1 := hide (HV.out.keepO ho1 HGB.out)
          have HS1 := hide (ho1.spans HS.out HGZ.out)
          clear ho1 hr1
          go_wp2_with fail
          refine (takecell_s g xs st1 w1 HR1.out hb hl HS1.out).mono ?_
          rw [HCC.out]
          rintro e w2 ⟨rfl, ho2, hr2⟩
          obtain ⟨w3, hw3⟩ : ∃ w3, w2.alloc (.cells #[.int .i32 r, .int .i32 m, .int .i32 y, .int .u8 (d : Int), .int .u8 (f : Int), .int .u8 (gg : Int), .int .u8 (b : Int)] 105) = w3 := ⟨_, rfl⟩
          have hb3 : Below w2.heap.size w2 w3 := by rw [← hw3]; exact (Below.refl _ _).alloc (Nat.le_refl _) _
          have HD3 : Hid (Whole w3 w2.heap.size 105 [.int .i32 r, .int .i32 m, .int .i32 y, .int .u8 (d : Int), .int .u8 (f : Int), .int .u8 (gg : Int), .int .u8 (b : Int)]) := by unfold Hid; rw [← hw3]; exact Whole.new w2 105 _
          have HR3 := hide (hr2.later hb3)
          have HO3 := hide (only_below (HO1.out.trans ho2) hb3)
          have HV3 := hide ((HV1.out.keepO ho2 HGB.out).later hb3).now
          have HS3 := hide ((ho2.spans HS1.out HGZ.out).below hb3)
          have HW3 := hide hw3
          have eC := @eqlCell
          clear hb3 hw3 ho2 hr2
          obtain ⟨c0, c1, c2, c3, c4, c5, c6, -⟩ := cells7 HD3.out
          have l3 := HD3.out.lt
          go_wp2
          rw [HW3.out]
          go_quiet (fail)
          obtain ⟨w4, hw4⟩ : ∃ w4, w3.drewN nq = w4 := ⟨_, rfl⟩
          rw [hw4]
          have hb4 : Below w3.heap.size w3 w4 := by rw [← hw4]; exact (Below.refl _ _).drewN _
          have HR4 := hide (HR3.out.later hb4)
          have HO4 := hide (only_below HO3.out hb4)
          have HV4 := hide (HV3.out.later hb4).now
          have HS4 := hide (HS3.out.below hb4)
          have HD4 := hide (HD3.out.later hb4)
          clear hb4 hw4 c0 c1 c2 c3 c4 c5 c6 l3
          rw [HOS.out] at HR4
          go_wp2_with fail
          refine (err_s g xs (T, e2) w4 HR4.out).mono ?_
          rintro e w9 ⟨rfl, rfl⟩
          have hne2 := HNE.out
          go_wp2
          go_ret
          refine ⟨none, 0, by rw [HNIL.out]; rfl, by rw [HNIL.out]; exact .nil, by rw [HNIL.out]; exact ⟨Nat.le_refl _, fun _ => rfl⟩, HO4.out, ?_⟩
          rw [HNIL.out]
          exact HR4.out
      · have hkp : 0 < k := by
          rcases Nat.eq_zero_or_pos k with z | z
          · have := hk0 z; omega
          · exact z
        have hdec : decide ((0 : Int) < (ln : Int)) = true := by simp; omega
        by_cases hlc : cAt out (ln - 1) = ⟨r, m, y, d, ⟨f, gg, b⟩⟩
        · have hdu : 0 < k ∧ cAt out (out.length - 1) = ⟨r, m, y, d, ⟨f, gg, b⟩⟩ := ⟨hkp, by rw [HLN.out]; exact hlc⟩
          have HDU := hide hlc
          clear hlc
          have hst := dup_yes (T := T) (E := E) (ok := ok) hdu
          obtain ⟨e2, he2⟩ : ∃ e2, (if E = 0 ∧ (ok = false ∨ rightC ⟨r, m, y, d, ⟨f, gg, b⟩⟩ = false ∨ 0 < k ∧ cAt out (out.length - 1) = ⟨r, m, y, d, ⟨f, gg, b⟩⟩) then (3 : Int) else E) = e2 := ⟨_, rfl⟩
          rw [he2] at hst hstep
          have hz2 : e2 ≠ 0 := by
            intro q
            by_cases z : E = 0
            · rw [if_pos ⟨z, .inr (.inr hdu)⟩] at he2; omega
            · rw [if_neg (fun y => z y.1)] at he2; omega
          have hne2 : (e2 != 0) = true := by simpa using hz2
          have HNE := hide hne2
          rw [if_neg hz2] at hstep
          have HNIL : Hid (takeD xs s = ((T, e2), [])) := by
            unfold Hid
            have q : loopD xs s0 (k + 1) = ((T, e2), out) := by rw [HSU.out]; exact hstep
            have := take_err (j := k + 1) HU.out (by rw [Int.toNat_natCast]; omega) (by rw [q]; exact hz2)
            rw [q] at this
            exact this
          have hoS : ((oneS ((T, E), (⟨r, m, y, d, ⟨f, gg, b⟩⟩ : Cel), ok)).1, fEr (oneS ((T, E), (⟨r, m, y, d, ⟨f, gg, b⟩⟩ : Cel), ok)).2 3) = (T, e2) := by rw [hst]; rfl
          have HOS := hide hoS
          clear hstep hst he2 hz2 hoS hdu hne2
          have HA := hide hA
          have HST := hide hST
          have HCC := hide hCC
          clear hA hST hCC
          go_wp2_with fail
          refine (takeoften_s g xs s2 (512 - (ln : Int)) wr HR.out hb hl (by omega)).mono ?_
          rw [HA.out]
          simp only
          rw [HST.out]
          rintro e w1 ⟨rfl, ho1, hr1⟩
          have HR1 := hide hr1
          have HO1 := hide (HO.out.trans ho1)
          have HV1 := hide (HV.out.keepO ho1 HGB.out)
          have HS1 := hide (ho1.spans HS.out HGZ.out)
          clear ho1 hr1
          go_wp2_with fail
          refine (takecell_s g xs st1 w1 HR1.out hb hl HS1.out).mono ?_
          rw [HCC.out]
          rintro e w2 ⟨rfl, ho2, hr2⟩
          obtain ⟨w3, hw3⟩ : ∃ w3, w2.alloc (.cells #[.int .i32 r, .int .i32 m, .int .i32 y, .int .u8 (d : Int), .int .u8 (f : Int), .int .u8 (gg : Int), .int .u8 (b : Int)] 105) = w3 := ⟨_, rfl⟩
          have hb3 : Below w2.heap.size w2 w3 := by rw [← hw3]; exact (Below.refl _ _).alloc (Nat.le_refl _) _
          have HD3 : Hid (Whole w3 w2.heap.size 105 [.int .i32 r, .int .i32 m, .int .i32 y, .int .u8 (d : Int), .int .u8 (f : Int), .int .u8 (gg : Int), .int .u8 (b : Int)]) := by unfold Hid; rw [← hw3]; exact Whole.new w2 105 _
          have HR3 := hide (hr2.later hb3)
          have HO3 := hide (only_below (HO1.out.trans ho2) hb3)
          have HV3 := hide ((HV1.out.keepO ho2 HGB.out).later hb3).now
          have HS3 := hide ((ho2.spans HS1.out HGZ.out).below hb3)
          have HW3 := hide hw3
          have eC := @eqlCell
          clear hb3 hw3 ho2 hr2
          obtain ⟨A3, c3', hv3, hcl3, -, -, -⟩ := HV3.out.form
          rw [HLN.out] at hv3
          cases hv3
          obtain ⟨⟨r', m', y', d', ⟨f', g', b'⟩⟩, hla⟩ : ∃ q, cAt out (ln - 1) = q := ⟨_, rfl⟩
          obtain ⟨bq, oq, rfl, lq, -⟩ := hcl3.at (i := ln - 1) (by rw [HLN.out]; omega)
          obtain ⟨u0, u1, u2, u3, u4, u5, u6, -⟩ := hcl3.sevenC (ln - 1) (by rw [HLN.out]; omega) hla
          clear hcl3
          obtain ⟨l1, rfl⟩ : ∃ l1, ln = l1 + 1 := ⟨ln - 1, by omega⟩
          rw [Nat.add_sub_cancel] at u0 u1 u2 u3 u4 u5 u6 hla
          have hqq : eqC r m y (d : Int) (f : Int) (gg : Int) (b : Int) r' m' y' (d' : Int) (f' : Int) (g' : Int) (b' : Int) = true := by rw [eqC_cel]; exact decide_eq_true (by have z1 := HDU.out; rw [Nat.add_sub_cancel, hla] at z1; exact z1.symm)
          clear hla
          obtain ⟨c0, c1, c2, c3, c4, c5, c6, -⟩ := cells7 HD3.out
          have l3 := HD3.out.lt
          go_wp2
          rw [HW3.out]
          go_quiet (fail)
          obtain ⟨w4, hw4⟩ : ∃ w4, w3.drewN nq = w4 := ⟨_, rfl⟩
          rw [hw4]
          have hb4 : Below w3.heap.size w3 w4 := by rw [← hw4]; exact (Below.refl _ _).drewN _
          have HR4 := hide (HR3.out.later hb4)
          have HO4 := hide (only_below HO3.out hb4)
          have HV4 := hide (HV3.out.later hb4).now
          have HS4 := hide (HS3.out.below hb4)
          have HD4 := hide (HD3.out.later hb4)
          clear hb4 hw4 c0 c1 c2 c3 c4 c5 c6 l3
          go_wp2_with fail
          refine (fail_s g xs _ 3 (by decide) w4 HR4.out).mono ?_
          rw [HOS.out]
          rintro e w10 ⟨rfl, ho10, hr10⟩
          have HR10 := hide hr10
          have HO10 := hide (HO4.out.trans ho10)
          clear ho10 hr10
          go_wp2_with fail
          refine (err_s g xs (T, e2) w10 HR10.out).mono ?_
          rintro e w9 ⟨rfl, rfl⟩
          have hne2 := HNE.out
          go_wp2
          go_ret
          refine ⟨none, 0, by rw [HNIL.out]; rfl, by rw [HNIL.out]; exact .nil, by rw [HNIL.out]; exact ⟨Nat.le_refl _, fun _ => rfl⟩, HO10.out, ?_⟩
          rw [HNIL.out]
          exact HR10.out
        · have hnd : ¬ (0 < k ∧ cAt out (out.length - 1) = ⟨r, m, y, d, ⟨f, gg, b⟩⟩) := fun z => hlc (by rw [← HLN.out]; exact z.2)
          have HND := hide hlc
          clear hlc
          have hst := dup_no (T := T) (E := E) (ok := ok) hnd
          obtain ⟨e2, he2⟩ : ∃ e2, (if E = 0 ∧ (ok = false ∨ rightC ⟨r, m, y, d, ⟨f, gg, b⟩⟩ = false ∨ 0 < k ∧ cAt out (out.length - 1) = ⟨r, m, y, d, ⟨f, gg, b⟩⟩) then (3 : Int) else E) = e2 := ⟨_, rfl⟩
          rw [he2] at hst hstep
          by_cases hz2 : e2 = 0
          · have hgood : E = 0 ∧ ok = true := by
              by_cases q : E = 0
              · refine ⟨q, ?_⟩
                cases ok
                · rw [if_pos ⟨q, .inl rfl⟩] at he2; omega
                · rfl
              · rw [if_neg (fun z => q z.1)] at he2; omega
            have hs20 := one_err hb hCC hgood.1 hgood.2
            have hKK : 1 ≤ KK := by
              rcases Nat.eq_zero_or_pos KK with z | z
              · subst z
                by_cases q : a1.2 = 0
                · rw [if_pos ⟨q, rfl⟩] at hST
                  rw [← hST] at hs20
                  simp at hs20
                · rw [if_neg (fun z => q z.1)] at hST
                  rw [← hST] at hs20
                  exact absurd hs20 q
              · exact z
            rw [if_pos hz2, hz2, Int.toNat_natCast] at hstep
            have HNX : Hid (loopD xs s0 (k + 1) = ((T, 0), out ++ List.replicate KK ⟨r, m, y, d, ⟨f, gg, b⟩⟩)) := by unfold Hid; rw [HSU.out]; exact hstep
            have hoS : (oneS ((T, E), (⟨r, m, y, d, ⟨f, gg, b⟩⟩ : Cel), ok)) = (T, 0) := Prod.ext rfl (hst.trans hz2)
            have HOS := hide hoS
            clear hstep hst he2 hz2 hgood hs20 hoS hnd
            have HA := hide hA
            have HST := hide hST
            have HCC := hide hCC
            clear hA hST hCC
            go_wp2_with fail
            refine (takeoften_s g xs s2 (512 - (ln : Int)) wr HR.out hb hl (by omega)).mono ?_
            rw [HA.out]
            simp only
            rw [HST.out]
            rintro e w1 ⟨rfl, ho1, hr1⟩
            have HR1 := hide hr1
            have HO1 := hide (HO.out.trans ho1)
            have HV1 := hide (HV.out.keepO ho1 HGB.out)
            have HS1 := hide (ho1.spans HS.out HGZ.out)
            clear ho1 hr1
            go_wp2_with fail
            refine (takecell_s g xs st1 w1 HR1.out hb hl HS1.out).mono ?_
            rw [HCC.out]
            rintro e w2 ⟨rfl, ho2, hr2⟩
            obtain ⟨w3, hw3⟩ : ∃ w3, w2.alloc (.cells #[.int .i32 r, .int .i32 m, .int .i32 y, .int .u8 (d : Int), .int .u8 (f : Int), .int .u8 (gg : Int), .int .u8 (b : Int)] 105) = w3 := ⟨_, rfl⟩
            have hb3 : Below w2.heap.size w2 w3 := by rw [← hw3]; exact (Below.refl _ _).alloc (Nat.le_refl _) _
            have HD3 : Hid (Whole w3 w2.heap.size 105 [.int .i32 r, .int .i32 m, .int .i32 y, .int .u8 (d : Int), .int .u8 (f : Int), .int .u8 (gg : Int), .int .u8 (b : Int)]) := by unfold Hid; rw [← hw3]; exact Whole.new w2 105 _
            have HR3 := hide (hr2.later hb3)
            have HO3 := hide (only_below (HO1.out.trans ho2) hb3)
            have HV3 := hide ((HV1.out.keepO ho2 HGB.out).later hb3).now
            have HS3 := hide ((ho2.spans HS1.out HGZ.out).below hb3)
            have HW3 := hide hw3
            have eC := @eqlCell
            clear hb3 hw3 ho2 hr2
            obtain ⟨A3, c3', hv3, hcl3, -, -, -⟩ := HV3.out.form
            rw [HLN.out] at hv3
            cases hv3
            obtain ⟨⟨r', m', y', d', ⟨f', g', b'⟩⟩, hla⟩ : ∃ q, cAt out (ln - 1) = q := ⟨_, rfl⟩
            obtain ⟨bq, oq, rfl, lq, -⟩ := hcl3.at (i := ln - 1) (by rw [HLN.out]; omega)
            obtain ⟨u0, u1, u2, u3, u4, u5, u6, -⟩ := hcl3.sevenC (ln - 1) (by rw [HLN.out]; omega) hla
            clear hcl3
            obtain ⟨l1, rfl⟩ : ∃ l1, ln = l1 + 1 := ⟨ln - 1, by omega⟩
            rw [Nat.add_sub_cancel] at u0 u1 u2 u3 u4 u5 u6 hla
            have hqq : eqC r m y (d : Int) (f : Int) (gg : Int) (b : Int) r' m' y' (d' : Int) (f' : Int) (g' : Int) (b' : Int) = false := by rw [eqC_cel]; exact decide_eq_false (fun z => HND.out (by rw [Nat.add_sub_cancel, hla, z]))
            clear hla
            obtain ⟨c0, c1, c2, c3, c4, c5, c6, -⟩ := cells7 HD3.out
            have l3 := HD3.out.lt
            go_wp2
            rw [HW3.out]
            go_quiet (fail)
            obtain ⟨w4, hw4⟩ : ∃ w4, w3.drewN nq = w4 := ⟨_, rfl⟩
            rw [hw4]
            have hb4 : Below w3.heap.size w3 w4 := by rw [← hw4]; exact (Below.refl _ _).drewN _
            have HR4 := hide (HR3.out.later hb4)
            have HO4 := hide (only_below HO3.out hb4)
            have HV4 := hide (HV3.out.later hb4).now
            have HS4 := hide (HS3.out.below hb4)
            have HD4 := hide (HD3.out.later hb4)
            clear hb4 hw4 c0 c1 c2 c3 c4 c5 c6 l3
            rw [HOS.out] at HR4
            go_wp2_with fail
            refine (err_s g xs (T, 0) w4 HR4.out).mono ?_
            rintro e w9 ⟨rfl, rfl⟩
            obtain ⟨c0, c1, c2, c3, c4, c5, c6, -⟩ := cells7 HD4.out
            have l4 := HD4.out.lt
            obtain ⟨w5, hw5⟩ : ∃ w5, w4.alloc (.cells #[.int .i32 r, .int .i32 m, .int .i32 y, .int .u8 (d : Int), .int .u8 (f : Int), .int .u8 (gg : Int), .int .u8 (b : Int)] 105) = w5 := ⟨_, rfl⟩
            have hb5 : Below w4.heap.size w4 w5 := by rw [← hw5]; exact (Below.refl _ _).alloc (Nat.le_refl _) _
            have hc5 : Cels .i32 w5 (some ⟨w4.heap.size, 0, none⟩) [⟨r, m, y, d, ⟨f, gg, b⟩⟩] := by rw [← hw5]; exact (Whole.new w4 105 (flatC .i32 [⟨r, m, y, d, ⟨f, gg, b⟩⟩])).cels
            have HC5 := hide hc5
            have HB5 := hide hb5
            have HW5 := hide hw5
            clear hc5 hb5 hw5
            go_wp2_with fail
            rw [HW5.out]
            refine (repeat_any _ 1 ⟨r, m, y, d, ⟨f, gg, b⟩⟩ KK w5 HC5.out hKK (by omega)).mono ?_
            rintro e w6 ⟨g6, rfl, -, hw6, hb6⟩
            rw [List.length_replicate]
            have hb46 := HB5.out.trans (hb6.mono HB5.out.size)
            have HR6 := hide (HR4.out.later hb46)
            have HO6 := hide (only_below HO4.out hb46)
            have HV6 := hide (HV4.out.later hb46).now
            have HS6 := hide (HS4.out.below hb46)
            have HC6 := hide hw6.cels
            clear hw6 hb6 hb46 c0 c1 c2 c3 c4 c5 c6 l4
            go_wp2_with (at_builtin; refine stopw ?_)
            unfold Hid
            refine wpList_catCG elemL rfl _ _ rfl rfl rfl HV6.out HC6.out (by rw [List.length_replicate]) (by intro q; cases q) (by rw [HLN.out]; omega) (by omega) ?_
            intro v' w7 hown hgr
            have HR7 := hide (HR6.out.keepT (rowC_same HV6.out hgr))
            have HO7 := hide (only_belowB HO6.out hown.bel (Nat.le_of_eq HB.out))
            have HS7 := hide (HS6.out.low hown.bel H0B.out)
            have HV7 := hide hown.now
            clear hown hgr
            go_wp2
            go_roundw
            case rel => exact ⟨k + 1, by omega, by go_num, .inr (by rw [HNX.out]), by rw [HNX.out]; exact HR7, by rw [HNX.out]; exact HV7, HO7, HS7⟩
            case measure => simp [intOf]; omega
          · have hne2 : (e2 != 0) = true := by simpa using hz2
            have HNE := hide hne2
            rw [if_neg hz2] at hstep
            have HNIL : Hid (takeD xs s = ((T, e2), [])) := by
              unfold Hid
              have q : loopD xs s0 (k + 1) = ((T, e2), out) := by rw [HSU.out]; exact hstep
              have := take_err (j := k + 1) HU.out (by rw [Int.toNat_natCast]; omega) (by rw [q]; exact hz2)
              rw [q] at this
              exact this
            have hoS : (oneS ((T, E), (⟨r, m, y, d, ⟨f, gg, b⟩⟩ : Cel), ok)) = (T, e2) := Prod.ext rfl hst
            have HOS := hide hoS
            clear hstep hst he2 hz2 hoS hnd hne2
            have HA := hide hA
            have HST := hide hST
            have HCC := hide hCC
            clear hA hST hCC
            go_wp2_with fail
            refine (takeoften_s g xs s2 (512 - (ln : Int)) wr HR.out hb hl (by omega)).mono ?_
            rw [HA.out]
            simp only
            rw [HST.out]
            rintro e w1 ⟨rfl, ho1, hr1⟩
            have HR1 := hide hr1
            have HO1 := hide (HO.out.trans ho1)
            have HV1 := hide (HV.out.keepO ho1 HGB.out)
            have HS1 := hide (ho1.spans HS.out HGZ.out)
            clear ho1 hr1
            go_wp2_with fail
            refine (takecell_s g xs st1 w1 HR1.out hb hl HS1.out).mono ?_
            rw [HCC.out]
            rintro e w2 ⟨rfl, ho2, hr2⟩
            obtain ⟨w3, hw3⟩ : ∃ w3, w2.alloc (.cells #[.int .i32 r, .int .i32 m, .int .i32 y, .int .u8 (d : Int), .int .u8 (f : Int), .int .u8 (gg : Int), .int .u8 (b : Int)] 105) = w3 := ⟨_, rfl⟩
            have hb3 : Below w2.heap.size w2 w3 := by rw [← hw3]; exact (Below.refl _ _).alloc (Nat.le_refl _) _
            have HD3 : Hid (Whole w3 w2.heap.size 105 [.int .i32 r, .int .i32 m, .int .i32 y, .int .u8 (d : Int), .int .u8 (f : Int), .int .u8 (gg : Int), .int .u8 (b : Int)]) := by unfold Hid; rw [← hw3]; exact Whole.new w2 105 _
            have HR3 := hide (hr2.later hb3)
            have HO3 := hide (only_below (HO1.out.trans ho2) hb3)
            have HV3 := hide ((HV1.out.keepO ho2 HGB.out).later hb3).now
            have HS3 := hide ((ho2.spans HS1.out HGZ.out).below hb3)
            have HW3 := hide hw3
            have eC := @eqlCell
            clear hb3 hw3 ho2 hr2
            obtain ⟨A3, c3', hv3, hcl3, -, -, -⟩ := HV3.out.form
            rw [HLN.out] at hv3
            cases hv3
            obtain ⟨⟨r', m', y', d', ⟨f', g', b'⟩⟩, hla⟩ : ∃ q, cAt out (ln - 1) = q := ⟨_, rfl⟩
            obtain ⟨bq, oq, rfl, lq, -⟩ := hcl3.at (i := ln - 1) (by rw [HLN.out]; omega)
            obtain ⟨u0, u1, u2, u3, u4, u5, u6, -⟩ := hcl3.sevenC (ln - 1) (by rw [HLN.out]; omega) hla
            clear hcl3
            obtain ⟨l1, rfl⟩ : ∃ l1, ln = l1 + 1 := ⟨ln - 1, by omega⟩
            rw [Nat.add_sub_cancel] at u0 u1 u2 u3 u4 u5 u6 hla
            have hqq : eqC r m y (d : Int) (f : Int) (gg : Int) (b : Int) r' m' y' (d' : Int) (f' : Int) (g' : Int) (b' : Int) = false := by rw [eqC_cel]; exact decide_eq_false (fun z => HND.out (by rw [Nat.add_sub_cancel, hla, z]))
            clear hla
            obtain ⟨c0, c1, c2, c3, c4, c5, c6, -⟩ := cells7 HD3.out
            have l3 := HD3.out.lt
            go_wp2
            rw [HW3.out]
            go_quiet (fail)
            obtain ⟨w4, hw4⟩ : ∃ w4, w3.drewN nq = w4 := ⟨_, rfl⟩
            rw [hw4]
            have hb4 : Below w3.heap.size w3 w4 := by rw [← hw4]; exact (Below.refl _ _).drewN _
            have HR4 := hide (HR3.out.later hb4)
            have HO4 := hide (only_below HO3.out hb4)
            have HV4 := hide (HV3.out.later hb4).now
            have HS4 := hide (HS3.out.below hb4)
            have HD4 := hide (HD3.out.later hb4)
            clear hb4 hw4 c0 c1 c2 c3 c4 c5 c6 l3
            rw [HOS.out] at HR4
            go_wp2_with fail
            refine (err_s g xs (T, e2) w4 HR4.out).mono ?_
            rintro e w9 ⟨rfl, rfl⟩
            have hne2 := HNE.out
            go_wp2
            go_ret
            refine ⟨none, 0, by rw [HNIL.out]; rfl, by rw [HNIL.out]; exact .nil, by rw [HNIL.out]; exact ⟨Nat.le_refl _, fun _ => rfl⟩, HO4.out, ?_⟩
            rw [HNIL.out]
            exact HR4.out
    · obtain rfl : k = N := by omega
      have he : Hid (takeD xs s = ((loopD xs s0 k).1, (loopD xs s0 k).2)) := by
        unfold Hid
        rcases HE.out with rfl | z
        · by_cases q : (loopD xs s0 0).1.2 = 0
          · exact take_fin HU.out q
          · exact take_err (j := 0) HU.out (Nat.zero_le _) q
        · have := take_fin (V := (k : Int)) HU.out (by rw [Int.toNat_natCast]; exact z)
          rw [Int.toNat_natCast] at this
          exact this
      obtain ⟨A0, cp, rfl, hcl, hcc, hcn, -⟩ := HV.out.typed (C := 0)
      have HCL := hide hcl
      have HCN := hide hcn
      clear hcl hcn
      obtain ⟨X, hX⟩ : ∃ X, loopD xs s0 k = X := ⟨_, rfl⟩
      rw [hX] at HR HCL he hcc ⊢
      obtain ⟨ln, hln⟩ : ∃ ln, X.2.length = ln := ⟨_, rfl⟩
      rw [hln] at hcc ⊢
      have HLN := hide hln
      clear hln hX
      go_wp2
      go_ret
      refine ⟨A0, cp, by rw [he.out, HLN.out]; rfl, by rw [he.out]; exact HCL.out, by rw [he.out, HLN.out]; exact ⟨hcc, HCN.out⟩, HO.out, by rw [he.out]; exact HR.out⟩
section
variable {P : Program} {ops : Array Oper} {Q : Exit → Act → World → Prop} {S : World → Prop}
end
theorem pen_t {xs : List Int} {s : Nat × Int} (hb : Byte xs) (ht : s.1 ≤ xs.length) : (penD xs s).1.1 ≤ xs.length := by
  have := nAt_le (t := s.1) s.2 hb ht
  unfold penD numD
  split <;> exact this
theorem marks_t {xs : List Int} {s : Nat × Int} (k : Int) (hb : Byte xs) (ht : s.1 ≤ xs.length) : (marksD xs s k).1.1 ≤ xs.length := by
  have t1 := up_t (most := 1114111) (er := 5) hb ht
  have t2 := up_t (most := 1114111) (er := 5) hb t1
  unfold marksD
  split
  · exact ht
  · split
    · exact t1
    · exact t2
theorem one_t {xs : List Int} {s : Nat × Int} (hb : Byte xs) (ht : s.1 ≤ xs.length) : (oneD xs s).1.1 ≤ xs.length := by
  have t1 := pen_t hb (up_t (most := 2) (er := 5) hb ht)
  have t2 := up_t (most := 1114111) (er := 5) hb t1
  have t3 := up_t (most := 2) (er := 6) hb t2
  have t4 := fun k => marks_t k hb t3
  unfold oneD
  simp only
  split
  · exact t1
  · exact t4 _
theorem step_t {xs : List Int} {i : Nat} {x : (Nat × Int) × List Cel} (hb : Byte xs) (ht : x.1.1 ≤ xs.length) : (stepD xs i x).1.1 ≤ xs.length := by
  have t1 := up_t (most := 512 - (x.2.length : Int)) (er := 6) hb ht
  have t2 : (if (upD xs x.1 (512 - (x.2.length : Int)) 6).1.2 = 0 ∧ (upD xs x.1 (512 - (x.2.length : Int)) 6).2 = 0 then ((upD xs x.1 (512 - (x.2.length : Int)) 6).1.1, (3 : Int)) else (upD xs x.1 (512 - (x.2.length : Int)) 6).1).1 ≤ xs.length := by split <;> exact t1
  have t3 := one_t hb t2
  obtain ⟨st1, hst⟩ : ∃ z, (if (upD xs x.1 (512 - (x.2.length : Int)) 6).1.2 = 0 ∧ (upD xs x.1 (512 - (x.2.length : Int)) 6).2 = 0 then ((upD xs x.1 (512 - (x.2.length : Int)) 6).1.1, (3 : Int)) else (upD xs x.1 (512 - (x.2.length : Int)) 6).1) = z := ⟨_, rfl⟩
  rw [hst] at t3
  unfold stepD
  simp only [hst]
  split <;> exact t3
theorem loop_t {xs : List Int} {s : Nat × Int} (hb : Byte xs) (ht : s.1 ≤ xs.length) : ∀ j, (loopD xs s j).1.1 ≤ xs.length
  | 0 => ht
  | j + 1 => by
    have ih := loop_t hb ht j
    show (if (loopD xs s j).1.2 = 0 then stepD xs j (loopD xs s j) else loopD xs s j).1.1 ≤ xs.length
    split
    · exact step_t hb ih
    · exact ih
theorem OwnC.low {k : IntKind} {e : TypeId} {B q : Nat} {w wr : World} {v : Value} {cs : List Cel} (h : OwnC e k B w wr v cs) (hq : q < B) (i : Nat) (x : Value) : OwnC e k B (wr.setCell ⟨q, i, none⟩ x) (wr.setCell ⟨q, i, none⟩ x) v cs := h.keepO (Only.put i x) hq
section
variable {w W W' : World} {a : Option Addr} {n c T : Nat} {E : Int} {v : Value} {out : List Cel}
end
theorem stopped_nil (w : World) : Calls Tryz.prog 84 #[.pointer none] w fun e w' => e = .returned (.bool true) ∧ w = w' := by
  go_enter Tryz.func84, Tryz.ntmps84
  go_wp2
  go_ret
  exact ⟨rfl, rfl⟩
theorem next_nil (f : Value) (w : World) : Calls Tryz.prog 63 #[.pointer none, f] w fun e w' => e = .returned (.int .u64 0) ∧ w = w' := by
  go_enter Tryz.func63, Tryz.ntmps63
  go_wp2_with fail
  refine (stopped_nil w).mono ?_
  rintro e w1 ⟨rfl, rfl⟩
  go_wp2
  go_ret
  exact ⟨rfl, rfl⟩
theorem some_nil (n : Int) (w : World) : Calls Tryz.prog 66 #[.pointer none, .int .i64 n] w fun e w' => e = .returned (.int .i64 0) ∧ Below w.heap.size w w' := by
  go_enter Tryz.func66, Tryz.ntmps66
  go_wp2_with (first | (go_at_call 88; go_in) | (refine (next_nil _ _).mono ?_; rintro e w1 ⟨rfl, rfl⟩))
  go_ret
  exact ⟨rfl, ((Below.refl _ _).alloc (Nat.le_refl _) _).alloc (by simp) _⟩
theorem take_nil (w : World) : Calls Tryz.prog 89 #[.pointer none] w fun e w' => e = .returned (.slice none 0 0) ∧ Below w.heap.size w w' := by
  go_enter Tryz.func89, Tryz.ntmps89
  go_wp2_with fail
  refine (some_nil 512 w).mono ?_
  rintro e w1 ⟨rfl, hb1⟩
  go_wp2
  go_loopw [3, 8] (fun v i wr => v = .slice none 0 0 ∧ i = .int .i64 0 ∧ wr = w1) (fun _ _ _ => 0)
  case atStart => exact ⟨rfl, rfl, rfl⟩
  case round =>
    obtain ⟨rfl, rfl, rfl⟩ := hrel
    go_wp2
    go_ret
    exact ⟨rfl, hb1⟩

theorem new_s (A : Option Addr) (n c : Nat) (bs : List Int) (w : World) (h : Ints .u8 w A bs) (hn : bs.length = n) (hc : A = none → c = 0) (hlen : n ≤ 1000000) :
    Calls Tryz.prog 41 #[.slice A n c] w fun e w' => ∃ g, e = .returned (.pointer (some ⟨g, 0, none⟩)) ∧ RdS w' g bs (0, 0) ∧ w.heap.size ≤ g ∧ Below w.heap.size w w' := by
  have HN := hide hn
  clear hn
  go_enter Tryz.func41, Tryz.ntmps41
  go_wp2_with fail
  refine (nu_clone_any A n c bs _ h HN.out hc hlen).mono ?_
  rintro e w1 ⟨v, rfl, hv⟩
  obtain ⟨A', c', rfl, hi, hc', hc0, -⟩ := hv.tk
  go_wp2
  go_ret
  exact ⟨w1.heap.size, rfl, ⟨0, Nat.zero_le _, ⟨A', c', heap_alloc_new w1 _, hi.below ((Below.refl _ _).alloc (Nat.le_refl _) _), hc', hc0⟩, fun _ => rfl⟩, hv.le, hv.bel.alloc hv.le _⟩
theorem done_s (g : Nat) (xs : List Int) (s : Nat × Int) (w : World) (h : RdS w g xs s) : Calls Tryz.prog 45 #[.pointer (some ⟨g, 0, none⟩)] w fun e w' => e = .returned (.int .i64 (dVal xs s.1 s.2)) ∧ w = w' := by
  obtain ⟨t, h1, h2, h3⟩ := h
  refine (rdone_any g xs t s.2 w h2).mono ?_
  rintro e w' ⟨rfl, rfl⟩
  refine ⟨?_, rfl⟩
  by_cases q : s.2 = 0
  · rw [h3 q]
  · unfold dVal
    rw [if_neg (fun z => q z.1), if_neg (fun z => q z.1)]
/-- What Parse leaves. -/
def ParseS (w : World) (x : List Cel × Int) (e : Ending) (w' : World) : Prop := ∃ A c, e = .returned (.tuple #[.slice A x.1.length c, .int .i64 x.2]) ∧ Cels .i32 w' A x.1 ∧ x.1.length ≤ c ∧ Below w.heap.size w w'
theorem only_fresh {g : Nat} {w w0 w1 : World} (hb : Below w.heap.size w w0) (ho : Only g w0 w1) (hg : w.heap.size ≤ g) : Below w.heap.size w w1 :=
  ⟨ho.os.trans hb.os, ho.tape.trans hb.tape, ho.output.trans hb.output, Nat.le_trans hb.size ho.size, fun i hi => (World.grownBy.block ho i (Nat.lt_of_lt_of_le hi hb.size) (fun e => by cases e; omega)).trans (hb.block i hi)⟩
theorem bytesR_len (cs : List Cel) : (bytesR cs).length ≤ 70 * cs.length + 10 := by
  unfold bytesR
  rw [List.length_append]
  have h1 := runBytes_len (runsOf cs)
  have h2 := runs_le cs
  have h3 := (enc_len (countR cs)).2
  omega
section
variable {A C : Option Addr} {n c m d : Nat} {cs L : List Cel} {w : World}
theorem rn_cut (h : LineIn w A n c cs) (hL : cs.take (min n 30) = L) : Calls Tryz.prog 30 #[.slice A n c] w fun e w' => ∃ A' c', e = .returned (.slice A' L.length c') ∧ Cels .i32 w' A' L ∧ L.length ≤ c' ∧ Below w.heap.size w w' := by
  obtain ⟨h1, h2, h3, h4, -⟩ := h
  refine (lcut_any A n c cs w h1 h2 h4 h3).mono ?_
  rw [hL]
  rintro e w' ⟨v, he, ho⟩
  obtain ⟨A', c', hv, hc, hl, -⟩ := ho.form
  exact ⟨A', c', by rw [he, hv], hc, hl, ho.bel⟩
theorem rn_of (h : Cels .i32 w A cs) (hn : cs.length = n) (hl : n ≤ 1000000) (hb : LB cs) : Calls Tryz.prog 33 #[.slice A n c] w fun e w' => ∃ A' c', e = .returned (.slice A' n c') ∧ Cels .i64 w' A' cs ∧ Below w.heap.size w w' := by
  refine (lineof_any A n c cs w h hn hl hb).mono ?_
  rintro e w' ⟨v, he, ho⟩
  obtain ⟨A', c', hv, hc, -⟩ := ho.form
  exact ⟨A', c', by rw [he, hv, hn], hc, ho.bel⟩
/-- The program's Bytes: where the cells are right. -/
theorem rn_bytes (h : Cels .i32 w A cs) (hn : cs.length = n) (hlm : n ≤ 1000000) (hnc : n ≤ c) (hb : LB cs) (hS : Spans w) {bs : List Int} {er : Int} (he : checkR cs = er) (hbs : (if er = 0 then bytesR cs else []) = bs) : Calls Tryz.prog 36 #[.slice A n c] w fun e w' => ∃ A' c', e = .returned (.tuple #[.slice A' bs.length c', .int .i64 er]) ∧ Ints .u8 w' A' bs ∧ bs.length ≤ c' ∧ (A' = none → c' = 0) ∧ Below w.heap.size w w' := by
  refine (runbytes_any A n c cs w h hn hlm hnc (fun i hi => (hb i (by omega)).2.2.2) hS).mono ?_
  rintro e w' ⟨v, hr, ho⟩
  rw [he, hbs] at ho
  obtain ⟨A', c', hv, hc, hl, hz, -⟩ := ho.form2
  exact ⟨A', c', by rw [hr, hv, he], hc, hl, hz, ho.bel⟩
theorem rn_rbytes (h : Cels .i64 w A cs) (hn : cs.length = n) (hl : n ≤ 512) (hw : cs.all rightC = true) {bs : List Int} (hbs : bytesR cs = bs) : Calls Tryz.prog 47 #[.slice A n c] w fun e w' => ∃ A' c', e = .returned (.slice A' bs.length c') ∧ Ints .u8 w' A' bs ∧ Below w.heap.size w w' := by
  refine (rrbytes_any A n c cs w h hn hl hw).mono ?_
  rintro e w' ⟨v, hr, ho⟩
  rw [hbs] at ho
  obtain ⟨A', c', hv, hc, -, -, -⟩ := ho.form2
  exact ⟨A', c', by rw [hr, hv], hc, ho.bel⟩
end
def laid1 : List (String × DataW Unit) := [("prolepsis/width.spans", Rows.laid_prolepsis_width_spans)]
theorem gSpans : Tryz.prog.globalNamed "prolepsis/width.spans" = some 0 := by kernel_rfl
theorem tSpans : (Tryz.prog.globals[0]?).map (·.type) = some 151 := by kernel_rfl
theorem size150 : Tryz.prog.cellsOf 150 = 3 := by kernel_rfl
theorem sizeT21 : Tryz.prog.cellsOf 21 = 1 := by kernel_rfl
theorem sizeT3 : Tryz.prog.cellsOf 3 = 1 := by kernel_rfl

def spanData (s : Int × Int × Int) : DataW Unit := .agg [.lit (.int .i32 s.1), .lit (.int .i32 s.2.1), .lit (.int .i64 s.2.2)]
theorem laid_is : (Rows.laid_prolepsis_width_spans : DataW Unit) = .agg (spans.map spanData) := rfl

theorem flat3 (l : List (Int × Int × Int)) : ∀ (i d : Nat), d < 3 → (l.flatMap cellsOf3)[3 * i + d]? = (l[i]?).bind (fun s => (cellsOf3 s)[d]?) := by
  induction l with
  | nil => intro i d _; simp
  | cons s l ih =>
    intro i d hd
    have hl : (cellsOf3 s).length = 3 := rfl
    rw [List.flatMap_cons]
    cases i with
    | zero => rw [List.getElem?_append_left (by omega)]; simp
    | succ i =>
      rw [List.getElem?_append_right (by omega), hl, show 3 * (i + 1) + d - 3 = 3 * i + d by omega, ih i d hd]
      simp

theorem struct150 : ∃ f0 f1 f2 : Field, Tryz.prog.underlying 150 = some (.struct #[f0, f1, f2]) ∧ f0.type = 21 ∧ f1.type = 21 ∧ f2.type = 3 ∧ f0.offset = 0 ∧ f1.offset = 1 ∧ f2.offset = 2 := ⟨_, _, _, Tryz.underlying150, rfl, rfl, rfl, rfl, rfl, rfl⟩

theorem cells_of_span {W : World} {base : Nat} {sp : Nat → Bool} {held : Bool} {fuel : Nat} {cs : List Value} {enc : TypeId × Value → Unit} {s : Int × Int × Int} {q : List MemPlace}
    (h : DataW.trod enc Tryz.prog W base sp held fuel 150 cs = some (spanData s, q)) : cs = cellsOf3 s := by
  obtain ⟨f0, f1, f2, hu, e0, e1, e2, o0, o1, o2⟩ := struct150
  obtain ⟨y0, y1, y2, m, hx, hl, h0, h1, h2⟩ := Deep.trod_struct3 hu h
  rw [e0, o0, sizeT21] at h0
  rw [e1, o1, sizeT21] at h1
  rw [e2, o2, sizeT3] at h2
  rw [size150] at hl
  obtain ⟨n0, c0, r0, _⟩ := DataW.trod_int Tryz.underlying21 h0
  obtain ⟨n1, c1, r1, _⟩ := DataW.trod_int Tryz.underlying21 h1
  obtain ⟨n2, c2, r2, _⟩ := DataW.trod_int Tryz.underlying3 h2
  subst r0 r1 r2
  obtain ⟨s1, s2, s3⟩ := s
  simp [spanData] at hx
  obtain ⟨⟨rfl, rfl, rfl⟩, _⟩ := hx
  match cs, hl with
  | [a, b, c], _ =>
    simp at c0 c1 c2
    subst c0 c1 c2
    rfl

/-- The table lies where the walks want it. -/
theorem of_laid {W : World} (h : laidMetH Tryz.prog laid1 W) : Spans W := by
  rw [MakeChecks.laidMetH_plain _ _ _ (by kernel_rfl)] at h
  obtain ⟨ps, ⟨g0, t0, cs0, f0, p0, q0, hg0, ht0, hv0, hd0, _, _⟩, _, _⟩ := h
  obtain rfl := Option.some.inj (gSpans.symm.trans hg0)
  obtain rfl := Option.some.inj (tSpans.symm.trans ht0)
  rw [laid_is] at hd0
  obtain ⟨xs, m, rfl, hx, hlen, hn, hel⟩ := DataW.trod_array Tryz.underlying151 hd0
  simp only [Prod.mk.injEq, DataW.agg.injEq] at hx
  intro j v hv
  have hj : j = 3 * (j / 3) + j % 3 := by omega
  have hd3 : j % 3 < 3 := by omega
  generalize j / 3 = i at hj
  generalize j % 3 = d at hj hd3
  subst hj
  unfold spanCells at hv
  rw [flat3 spans i d hd3] at hv
  cases hs : spans[i]? with
  | none => rw [hs] at hv; cases hv
  | some s =>
    rw [hs] at hv
    have hi : i < 18 := (List.getElem?_eq_some_iff.1 hs).1
    have he := hel i hi
    cases hxi : xs[i]? with
    | none => have := List.getElem?_eq_none_iff.1 hxi; omega
    | some x =>
      rw [hxi, size150] at he
      have h1 : (xs.map (·.1))[i]? = some x.1 := by rw [List.getElem?_map, hxi]; rfl
      rw [← hx.1, List.getElem?_map, hs] at h1
      have h2 : spanData s = x.1 := by simpa using h1
      obtain ⟨x1, x2⟩ := x
      simp only at h2
      subst h2
      have hc := cells_of_span he
      have hcd : (cellsOf3 s)[d]? = some v := hv
      rw [← hc, List.getElem?_take, if_pos hd3, List.getElem?_drop] at hcd
      have := World.var?_cell hg0 hv0 (i * 3 + d)
      rw [Nat.zero_add, show 3 * i + d = i * 3 + d by omega, this, ← Array.getElem?_toList]
      exact hcd

/-- The door's own heap meets the condition: three closed facts. -/
theorem door_met (os : Os) (args : Array Value) : laidMetH Tryz.prog laid1 ((World.doorLaid Tryz.prog 400 os).forCall (fun _ _ => 0) ⟨#[], args, []⟩).memory :=
  laidMetH_of_parts3 (fuel := 8) (laidMet_of_run' 8 (by kernel_rfl) (by kernel_rfl)) (by kernel_rfl) (by kernel_rfl)
theorem right_CelB {c : Cel} (h : rightC c = true) : CelB c := by
  obtain ⟨-, hf⟩ := right_facts h
  unfold CelB R32
  rcases hf with ⟨q, h1, h2, h3⟩ | ⟨q, h1, -, h2, h3⟩
  · rw [h1, h2, h3, q]; decide
  · omega
theorem all_LB {cs : List Cel} (h : cs.all rightC = true) : LB cs := fun i hi => right_CelB (List.all_eq_true.1 h _ (List.mem_of_getElem? (get_cAt cs i hi)))
theorem take_LB {xs : List Int} {s : Nat × Int} (hb : Byte xs) : LB (takeD xs s).2 ∧ (takeD xs s).2.length ≤ 512 := by
  by_cases q : (takeD xs s).1.2 = 0
  · obtain ⟨-, h1, h2, -⟩ := take_back hb q
    exact ⟨all_LB h2, h1⟩
  · have : (takeD xs s).2 = [] := by
      unfold takeD at q ⊢
      simp only at q ⊢
      split at q
      · rename_i h; exact absurd h q
      · rename_i h; rw [if_neg h]
    rw [this]
    exact ⟨fun i hi => absurd hi (by simp), by simp⟩
theorem parse_LB {xs : List Int} (hb : Byte xs) : LB (parseD xs).1 ∧ (parseD xs).1.length ≤ 512 := by
  unfold parseD
  simp only
  split
  · exact take_LB hb
  · exact ⟨fun i hi => absurd hi (by simp), by simp⟩
theorem Only.fresh {g : Nat} {w w1 w2 : World} (ho : Only g w1 w2) (hg : w.heap.size ≤ g) (hb : Below w.heap.size w w1) : Below w.heap.size w w2 := only_fresh hb ho hg
section
variable {w : World} {G L M R C : Nat} {g : Gd}
/-- May a grid have so many? -/
def sideB (n : Int) : Bool := decide (1 ≤ n ∧ n ≤ 512)
end
def sizeB (r c : Int) : Bool := decide (sizeN r c)
theorem rsize_any (r c : Int) (w : World) : Calls Tryz.prog 48 #[.int .i64 r, .int .i64 c] w fun e w' => e = .returned (.bool (sizeB r c)) ∧ w = w' := by
  by_cases h : sizeN r c
  · have HD : Hid (sizeB r c = true) := by unfold Hid sizeB; simpa using h
    obtain ⟨⟨h1, h2⟩, h3, h4⟩ := h
    go_enter Tryz.func48, Tryz.ntmps48
    go_wp2
    go_ret
    exact ⟨ret_bool HD.out.symm, rfl⟩
  · have HD : Hid (sizeB r c = false) := by unfold Hid sizeB; simpa using h
    have HN := hide h
    clear h
    by_cases h1 : 1 ≤ r
    · by_cases h2 : r ≤ 512
      · by_cases h3 : 1 ≤ c
        · have h4 : ¬ c ≤ 512 := fun q => HN.out ⟨⟨h1, h2⟩, h3, q⟩
          go_enter Tryz.func48, Tryz.ntmps48
          go_wp2
          go_ret
          exact ⟨ret_bool HD.out.symm, rfl⟩
        · go_enter Tryz.func48, Tryz.ntmps48
          go_wp2
          go_ret
          exact ⟨ret_bool HD.out.symm, rfl⟩
      · go_enter Tryz.func48, Tryz.ntmps48
        go_wp2
        go_ret
        exact ⟨ret_bool HD.out.symm, rfl⟩
    · go_enter Tryz.func48, Tryz.ntmps48
      go_wp2
      go_ret
      exact ⟨ret_bool HD.out.symm, rfl⟩
theorem new1W (w : World) (o : Obj) : Below w.heap.size w (w.alloc o) := (Below.refl _ _).alloc (Nat.le_refl _) _
theorem RwsC.fresh {B : Nat} {w wr : World} {A : Option Addr} {n cap : Nat} {zss : List (List Cel)} (h : RwsC B w wr (.slice A n cap) zss) (h1 : 1 ≤ zss.length) : ∃ b, A = some ⟨b, 0, none⟩ ∧ B ≤ b := by
  obtain ⟨xs, ho, _⟩ := h.row
  rcases ho.2 with ⟨e, h0⟩ | ⟨g, cap', cur, e, hB, _⟩
  · omega
  · cases e
    exact ⟨g, rfl, hB⟩
theorem Below.put3 {B : Nat} {W w : World} {q : Nat} (h : Below B W w) (hq : B ≤ q) (x0 x1 x2 : Value) : Below B W (((w.setCell ⟨q, 0, none⟩ x0).setCell ⟨q, 1, none⟩ x1).setCell ⟨q, 2, none⟩ x2) := below_put3 h hq x0 x1 x2
theorem Lns.put3 {w : World} {A : Option Addr} {ls : List (List Cel)} {q : Nat} {t : TypeId} {l : List Value} (h : Lns w A ls) (hq : Whole w q t l) (h1 : t ≠ 100) (h2 : t ≠ 71) (x0 x1 x2 : Value) : Lns (((w.setCell ⟨q, 0, none⟩ x0).setCell ⟨q, 1, none⟩ x1).setCell ⟨q, 2, none⟩ x2) A ls :=
  h.keep (((Stays.put hq (Ne.symm h1)).trans (Stays.put (hq.put 0 x0) (Ne.symm h1))).trans (Stays.put ((hq.put 0 x0).put 1 x1) (Ne.symm h1))) (((Stays.put hq (Ne.symm h2)).trans (Stays.put (hq.put 0 x0) (Ne.symm h2))).trans (Stays.put ((hq.put 0 x0).put 1 x1) (Ne.symm h2)))
end
end Go.Proofs.YtcbdokocnjoilaaGreatDoor
