/-
  Contracts and plain mathematics of RnRef2, BRead.
-/
import Derived.Test.YtcbdokocnjoilaaGreatDoorH7
import Derived.Test.YtcbdokocnjoilaaGreatDoorH8
import Derived.Test.YtcbdokocnjoilaaGreatDoorH5
import Derived.Test.YtcbdokocnjoilaaGreatDoorH6
import Derived.WalkMore
import Derived.ScopeJumps
namespace Go.Proofs.YtcbdokocnjoilaaGreatDoor
set_option maxRecDepth 100000
set_option linter.unusedVariables false
set_option maxHeartbeats 8000000
section
open Go.ChangeShapes Go.WideShapes Go.ChangeAt Go.RowKit
/-- A row stays, where another one, of another type, grows. -/
theorem own_other {e e' : TypeId} {k k' : IntKind} {B B' : Nat} {w w2 wr w1 : World} {v v' : Value} {bs bs' : List Int} (ho : Own e' k' B w wr v' bs') (hn : Own e k B' w2 wr v bs) (hg : wr.grownBy w1 v.ownBlock) (hB : B ≤ B') (hne : e ≠ e') : Own e' k' B w w1 v' bs' := by
  refine ⟨ho.cl.keep fun g cur hh => ?_, ho.bel.grown hg ho.le (fun g hg' => Nat.le_trans hB (own_ge hn.own g hg')), Nat.le_trans ho.le hg.size⟩
  refine hg.block g (Array.getElem?_eq_some_iff.1 hh).1 ?_
  intro e
  rcases hn.own.2 with ⟨rfl, _⟩ | ⟨g', cap, cur', rfl, _, hh', _⟩
  · simp [Value.ownBlock] at e
  · obtain rfl : g = g' := by simpa [Value.ownBlock] using e
    rw [hh] at hh'
    simp only [Option.some.injEq, Obj.cells.injEq] at hh'
    exact hne hh'.2.1.symm
theorem row_other {e : TypeId} {k : IntKind} {B' : Nat} {w2 wr w1 : World} {v : Value} {bs : List Int} (hn : Own e k B' w2 wr v bs) (hg : wr.grownBy w1 v.ownBlock) (b : Nat) (cur : Array Value) (t : TypeId) (ht : e ≠ t) (hb : wr.heap[b]? = some (Obj.cells cur t (0, 0))) : w1.heap[b]? = wr.heap[b]? := by
  refine hg.block b (Array.getElem?_eq_some_iff.1 hb).1 ?_
  intro q
  rcases hn.own.2 with ⟨rfl, _⟩ | ⟨g', cap, cur', rfl, _, hh', _⟩
  · simp [Value.ownBlock] at q
  · obtain rfl : b = g' := by simpa [Value.ownBlock] using q
    rw [hb] at hh'
    simp only [Option.some.injEq, Obj.cells.injEq] at hh'
    exact ht hh'.2.1.symm
theorem numsR_len (k : Nat) (c : Cel) : (numsR k c).length ≤ 7 := by
  unfold numsR cellNums marksOf
  split
  · simp
  · split <;> split <;> simp
theorem nums_at (KK d NN R0 : Nat) (r m y : Int) (f g b : Nat) (ms : List Int) (hd : ¬ d = 0) (hN : numN ⟨f, g, b⟩ = (NN : Int)) (hr : r = (R0 : Int)) (hms : marksOf ⟨r, m, y, d, ⟨f, g, b⟩⟩ = ms) : numsR KK ⟨r, m, y, d, ⟨f, g, b⟩⟩ = [(KK : Int), (d : Int), (NN : Int)] ++ [(R0 : Int), (ms.length : Int)] ++ ms := by
  unfold numsR cellNums
  simp only
  rw [if_neg hd, hN, hms, hr]
  rfl
theorem elemU64 : Elem Tryz.prog 63 22 .u64 8 := ⟨Tryz.underlying63, by kernel_rfl⟩
theorem lit3 (w : World) (a b c : Nat) : Own 22 .u64 w.heap.size w (w.alloc (.cells #[.int .u64 (a : Int), .int .u64 (b : Int), .int .u64 (c : Int)] 22)) (.slice (some ⟨w.heap.size, 0, none⟩) 3 3) [(a : Int), (b : Int), (c : Int)] := Own.lit w 22 .u64 [(a : Int), (b : Int), (c : Int)] 3 rfl (by omega)
theorem run_facts {cs : List Cel} (hw : cs.all rightC = true) {i : Nat} (hi : i < cs.length) : rightC (cAt cs i) = true := by
  have := get_cAt cs i hi
  exact List.all_eq_true.1 hw _ (List.mem_of_getElem? this)

theorem rrbytes_any (A : Option Addr) (n c : Nat) (cs : List Cel) (w : World) (h : Cels .i64 w A cs) (hn : cs.length = n) (hl : n ≤ 512) (hw : cs.all rightC = true) :
    Calls Tryz.prog 47 #[.slice A n c] w (Made 5 .u8 w (bytesR cs)) := by
  have HC := hide h
  have HN := hide hn
  have HW := hide hw
  have eqC' := @eqlC
  have hcl : countR cs ≤ 512 := by rw [← runs_count]; have := runs_le cs; omega
  clear h hn hw
  go_enter Tryz.func47, Tryz.ntmps47
  go_wp2_with fail
  refine (rrcount_any A n c cs w HC.out HN.out (by omega)).mono ?_
  rintro e w0 ⟨rfl, hb0⟩
  have HB0 := hide hb0
  clear hb0
  go_wp2_with fail
  refine (nu_rbytes_any (countR cs) w0 (by omega)).mono ?_
  rintro e w1 ⟨v1, rfl, hv1⟩
  have HV1 := hide (hv1.from HB0.out HB0.out.size)
  clear hv1
  go_wp2
  go_loopw [3, 4] (fun v iv wr => ∃ (i : Nat) (pre : List (Nat × Cel)), i ≤ n ∧ iv = .int .i64 i ∧ Hid (pre ++ runsOf (cs.drop i) = runsOf cs) ∧ Hid (Own 5 .u8 w.heap.size w wr v (enc (countR cs) ++ runBytes pre))) (fun _ iv _ => n - (intOf iv).toNat)
  case atStart => exact ⟨0, [], Nat.zero_le _, rfl, rfl, by unfold Hid; simpa [runBytes] using HV1.out⟩
  case round =>
    obtain ⟨i, pre, hi, rfl, HP, HV⟩ := hrel
    by_cases hlt : i < n
    · have hrc := run_facts HW.out (i := i) (by rw [HN.out]; exact hlt)
      obtain ⟨⟨r, m, y, d, ⟨f, g, b⟩⟩, hc⟩ : ∃ q, cAt cs i = q := ⟨_, rfl⟩
      rw [hc] at hrc
      have HCI := hide hc
      have HRC := hide hrc
      clear hc hrc
      obtain ⟨wo, rfl⟩ : ∃ w5, w5 = wr := ⟨_, rfl⟩
      obtain ⟨vv, hvv⟩ : ∃ vv, u3 = vv := ⟨_, rfl⟩
      subst hvv
      go_wp2
      go_loopw [5] (fun kv wi => ∃ k : Nat, i ≤ k ∧ k ≤ n ∧ kv = .int .i64 k ∧ Hid (∀ p, i ≤ p → p < k → cAt cs p = cAt cs i) ∧ Below wo.heap.size wo wi) (fun kv _ => n - (intOf kv).toNat)
      case atStart => exact ⟨i, Nat.le_refl _, by omega, rfl, (fun p h1 h2 => by omega), Below.refl _ _⟩
      case round =>
        obtain ⟨k, hik, hkn, rfl, HQ, hbi⟩ := hrel
        have HBI := hide hbi
        clear hbi
        have hbw := HV.out.bel.trans (HBI.out.mono HV.out.le)
        obtain ⟨b1, o1, rfl, l1, -⟩ := HC.out.at (i := i) (by rw [HN.out]; exact hlt)
        obtain ⟨u0', u1', u2', u3', u4', u5', u6', l1'⟩ := (HC.out.below hbw).sevenC i (by rw [HN.out]; exact hlt) HCI.out
        by_cases hk : k < n
        · obtain ⟨⟨r', m', y', d', ⟨f', g', b'⟩⟩, hck⟩ : ∃ q, cAt cs k = q := ⟨_, rfl⟩
          obtain ⟨v0, v1, v2, v3, v4, v5, v6, -⟩ := (HC.out.below hbw).sevenC k (by rw [HN.out]; exact hk) hck
          have HCK := hide hck
          clear hck hbw
          by_cases he : (⟨r', m', y', d', ⟨f', g', b'⟩⟩ : Cel) = ⟨r, m, y, d, ⟨f, g, b⟩⟩
          · have hqq : eqC r' m' y' (d' : Int) (f' : Int) (g' : Int) (b' : Int) r m y (d : Int) (f : Int) (g : Int) (b : Int) = true := by rw [eqC_cel]; exact decide_eq_true he
            have HE := hide he
            clear he
            go_wp2
            go_quiet (fail)
            go_wp2
            go_roundw
            case rel => exact ⟨k + 1, by omega, by omega, by go_num, (fun p h1 h2 => by
              rcases Nat.lt_or_eq_of_le (Nat.lt_succ_iff.1 h2) with z | z
              · exact HQ.out p h1 z
              · rw [z, HCK.out, HE.out, HCI.out]), HBI.out.drewN _⟩
            case measure => simp [intOf]; omega
          · have hqq : eqC r' m' y' (d' : Int) (f' : Int) (g' : Int) (b' : Int) r m y (d : Int) (f : Int) (g : Int) (b : Int) = false := by rw [eqC_cel]; exact decide_eq_false he
            have hki : i < k := by
              rcases Nat.lt_or_eq_of_le hik with z | z
              · exact z
              · subst z
                have := HCK.out
                rw [HCI.out] at this
                exact absurd this.symm he
            have HRN := hide (runs_drop cs i k hki (by rw [HN.out]; omega) HQ.out (.inr (by rw [HCK.out, HCI.out]; exact he)))
            clear he
            go_wp2
            go_quiet (fail)
            obtain ⟨wx, hwx⟩ : ∃ wx, wr.drewN nq = wx := ⟨_, rfl⟩
            rw [hwx]
            have hbx : Below wo.heap.size wo wx := by rw [← hwx]; exact HBI.out.drewN _
            have HVX := hide (HV.out.later hbx)
            have hbw := HVX.out.bel
            obtain ⟨u0', u1', u2', u3', u4', u5', u6', l1'⟩ := (HC.out.below hbw).sevenC i (by rw [HN.out]; exact hlt) HCI.out
            obtain ⟨hp, hf⟩ := right_facts HRC.out
            obtain ⟨k0, k1⟩ := numN_bd (p := ⟨f, g, b⟩) hp
            obtain ⟨NN, hNN⟩ : ∃ NN : Nat, numN ⟨f, g, b⟩ = (NN : Int) := ⟨(numN ⟨f, g, b⟩).toNat, by omega⟩
            have HNN := hide hNN
            have hNb : NN ≤ 16927 := by omega
            rw [HCI.out] at HRN
            clear hwx hbx hbw hNN k0 k1 hp
            obtain ⟨W8, hW8⟩ : ∃ W8, wx.alloc (.cells #[.int .i64 r, .int .i64 m, .int .i64 y, .int .u8 (d : Int), .int .u8 (f : Int), .int .u8 (g : Int), .int .u8 (b : Int)] 100) = W8 := ⟨_, rfl⟩
            have hb8 : Below wx.heap.size wx W8 := by rw [← hW8]; exact (Below.refl _ _).alloc (Nat.le_refl _) _
            have HD8 : Hid (Whole W8 wx.heap.size 100 [.int .i64 r, .int .i64 m, .int .i64 y, .int .u8 (d : Int), .int .u8 (f : Int), .int .u8 (g : Int), .int .u8 (b : Int)]) := by unfold Hid; rw [← hW8]; exact Whole.new wx 100 [.int .i64 r, .int .i64 m, .int .i64 y, .int .u8 (d : Int), .int .u8 (f : Int), .int .u8 (g : Int), .int .u8 (b : Int)]
            have HV8 := hide (HVX.out.later hb8)
            have HW8 := hide hW8
            have hbl : (enc (countR cs) ++ runBytes pre).length ≤ 50000 := by
              have h1 := (enc_len (countR cs)).2
              have h2 := runBytes_len pre
              have h3 : pre.length ≤ 512 := by
                have h4 := congrArg List.length HP.out
                rw [List.length_append] at h4
                have h5 := runs_le cs
                have h6 := HN.out
                omega
              rw [List.length_append]
              omega
            obtain ⟨KK, hKK⟩ : ∃ KK, k - i = KK := ⟨_, rfl⟩
            rw [hKK] at HRN
            have hki2 : (k : Int) - (i : Int) = (KK : Int) := by omega
            have hKb : KK ≤ 512 := by omega
            have HKK := hide hKK
            clear hb8 hW8 hKK
            obtain ⟨c0, c1, c2, c3, c4, c5, c6, -⟩ := cells7 HD8.out
            have l8 := HD8.out.lt
            go_wp2
            rw [HW8.out]
            refine wp_region_chainL (fun w' => Below W8.heap.size W8 w') 12 [(0, 0), (0, 1), (0, 2), (0, 4), (0, 7), (0, 3), (0, 5), (0, 6), (1, 8), (1, 9), (1, 10), (1, 11), (3, 12)] (by kernel_rfl) (by kernel_rfl) (by kernel_rfl) (fun _ _ _ _ _ h => h) ?_ ?_
            · exact (Below.refl _ _).drewN 1
            refine chainL_take (v := ?_) (by simp only [List.getElem?_toArray, List.getElem?_cons_zero]; rfl) (by rfl) (fun w hS => ?_) ?_
            rotate_left
            · go_simp <;> with_reducible rfl
            simp only [Act.put, List.setIfInBounds_toArray, List.set_cons_zero, List.set_cons_succ]
            refine chainL_take (v := ?_) (by simp only [List.getElem?_toArray, List.getElem?_cons_zero, List.getElem?_cons_succ]; rfl) (by rfl) (fun w hS => ?_) ?_
            rotate_left
            · go_simp <;> with_reducible rfl
            simp only [Act.put, List.setIfInBounds_toArray, List.set_cons_zero, List.set_cons_succ]
            refine chainL_take (v := ?_) (by simp only [List.getElem?_toArray, List.getElem?_cons_zero, List.getElem?_cons_succ]; rfl) (by rfl) (fun w hS => ?_) ?_
            rotate_left
            · go_simp <;> with_reducible rfl
            simp only [Act.put, List.setIfInBounds_toArray, List.set_cons_zero, List.set_cons_succ]
            refine chainL_take (v := ?_) (by simp only [List.getElem?_toArray, List.getElem?_cons_zero, List.getElem?_cons_succ]; rfl) (by rfl) (fun w hS => ?_) ?_
            rotate_left
            · go_simp <;> with_reducible rfl
            simp only [Act.put, List.setIfInBounds_toArray, List.set_cons_zero, List.set_cons_succ]
            refine chainL_take (v := ?_) (by simp only [List.getElem?_toArray, List.getElem?_cons_zero, List.getElem?_cons_succ]; rfl) (by rfl) (fun w hS => ?_) ?_
            rotate_left
            · go_simp <;> with_reducible rfl
            simp only [Act.put, List.setIfInBounds_toArray, List.set_cons_zero, List.set_cons_succ]
            refine chainL_take (v := ?_) (by simp only [List.getElem?_toArray, List.getElem?_cons_zero, List.getElem?_cons_succ]; rfl) (by rfl) (fun w hS => ?_) ?_
            rotate_left
            · go_simp <;> with_reducible rfl
            simp only [Act.put, List.setIfInBounds_toArray, List.set_cons_zero, List.set_cons_succ]
            refine chainL_take (v := ?_) (by simp only [List.getElem?_toArray, List.getElem?_cons_zero, List.getElem?_cons_succ]; rfl) (by rfl) (fun w hS => ?_) ?_
            rotate_left
            · obtain ⟨c0, c1, c2, c3, c4, c5, c6, -⟩ := cells7 (HD8.out.later hS); go_simp <;> with_reducible rfl
            simp only [Act.put, List.setIfInBounds_toArray, List.set_cons_zero, List.set_cons_succ]
            refine chainL_take (v := ?_) (by simp only [List.getElem?_toArray, List.getElem?_cons_zero, List.getElem?_cons_succ]; rfl) (by rfl) (fun w hS => ?_) ?_
            rotate_left
            · go_simp <;> with_reducible rfl
            simp only [Act.put, List.setIfInBounds_toArray, List.set_cons_zero, List.set_cons_succ]
            refine chainL_alone (by simp only [List.getElem?_toArray, List.getElem?_cons_zero, List.getElem?_cons_succ]; rfl) ?_
            intro K hK
            go_wp2
            refine hK.out _ _ ((Below.refl _ _).drewN 1) ?_
            clear hK K
            refine chainL_alone (by simp only [List.getElem?_toArray, List.getElem?_cons_zero, List.getElem?_cons_succ]; rfl) ?_
            intro K hK
            go_wp2_with fail
            refine (rnumber_any f g b _).mono ?_
            rintro e w9 ⟨rfl, hb9⟩
            rw [HNN.out]
            have B9 : Below W8.heap.size W8 w9 := ((Below.refl _ _).drewN 1).trans hb9
            have HB9 := hide B9
            clear hb9
            go_wp2
            refine hK.out _ _ (HB9.out) ?_
            clear hK K
            refine chainL_alone (by simp only [List.getElem?_toArray, List.getElem?_cons_zero, List.getElem?_cons_succ]; rfl) ?_
            intro K hK
            go_wp2
            refine hK.out _ _ (HB9.out) ?_
            clear hK K
            refine chainL_alone (by simp only [List.getElem?_toArray, List.getElem?_cons_zero, List.getElem?_cons_succ]; rfl) ?_
            intro K hK
            go_wp2
            refine hK.out _ _ (HB9.out.alloc HB9.out.size _) ?_
            clear hK K
            refine chainL_late (by simp only [List.getElem?_toArray, List.getElem?_cons_zero, List.getElem?_cons_succ]; rfl) ?_
            intro K hK
            go_wp2
            refine hK.out _ _ ?_
            clear hK K
            refine chainL_nil ?_
            have HL3 := hide (lit3 w9 KK d NN)
            obtain ⟨w10, hw10⟩ : ∃ w10, w9.alloc (.cells #[.int .u64 (KK : Int), .int .u64 (d : Int), .int .u64 (NN : Int)] 22) = w10 := ⟨_, rfl⟩
            rw [hw10] at HL3 ⊢
            have HV10 := hide ((HV8.out.later HB9.out).later HL3.out.bel)
            have HD10 := hide ((HD8.out.later HB9.out).later HL3.out.bel)
            have HG9 : Hid (w.heap.size ≤ w9.heap.size) := Nat.le_trans (Nat.le_trans HV8.out.le HB9.out.size) (Nat.le_refl _)
            clear hw10 HD8 HV8 c0 c1 c2 c3 c4 c5 c6 l8
            by_cases hd0 : d = 0
            · have hnw : Hid (numsR KK ⟨r, m, y, d, ⟨f, g, b⟩⟩ = [(KK : Int), (d : Int), (NN : Int)]) := by
                unfold Hid numsR cellNums
                simp only
                rw [if_pos hd0, HNN.out]
                rfl
              obtain ⟨c0, c1, c2, c3, c4, c5, c6, -⟩ := cells7 HD10.out
              have lq := HD10.out.lt
              have hdz : ¬ ((0 : Int) < (d : Int)) := by omega
              have hdz2 : decide ((0 : Int) < (d : Int)) = false := by simp; omega
              have hdn : d < 256 := by omega
              have HR : Hid (Ints .u64 w10 (some ⟨w9.heap.size, 0, none⟩) (numsR KK ⟨r, m, y, d, ⟨f, g, b⟩⟩)) := by
                obtain ⟨A5, c5, e5, i5, -⟩ := HL3.out.form
                cases e5
                unfold Hid
                rw [hnw.out]
                exact i5
              have HRL : Hid ((numsR KK ⟨r, m, y, d, ⟨f, g, b⟩⟩).length = 3) := by unfold Hid; rw [hnw.out]; rfl
              have HRB : Hid (∀ z ∈ numsR KK ⟨r, m, y, d, ⟨f, g, b⟩⟩, 0 ≤ z ∧ z < 18446744073709551616) := by unfold Hid; rw [hnw.out]; intro z hz; simp at hz; omega
              clear hd0 hf
              go_wp2_with fail
              refine (nu_all_any _ _ _ _ w10 HR.out HRL.out (by omega) HRB.out).mono ?_
              rintro e w20 ⟨v20, rfl, hv20⟩
              obtain ⟨A20, c20, rfl, i20, n20, z20, -⟩ := hv20.form2
              have HV20 := hide (HV10.out.later hv20.bel)
              have HI20 := hide i20
              have HZ20 := hide z20
              have hel := encAll_len (numsR KK ⟨r, m, y, d, ⟨f, g, b⟩⟩)
              have hnl := numsR_len KK ⟨r, m, y, d, ⟨f, g, b⟩⟩
              obtain ⟨L20, hL20⟩ : ∃ L20, (encAll (numsR KK ⟨r, m, y, d, ⟨f, g, b⟩⟩)).length = L20 := ⟨_, rfl⟩
              rw [hL20] at hel n20 ⊢
              have HL20 := hide hL20
              clear hv20 i20 z20 hL20
              go_wp2_with (at_builtin; refine stopw ?_)
              unfold Hid
              refine wpList_cat elemBytes rfl _ _ rfl rfl rfl HV20.out HI20.out HL20.out HZ20.out (by omega) (by omega) ?_
              intro v21 w21 hown
              have e21 : runBytes (pre ++ [(KK, (⟨r, m, y, d, ⟨f, g, b⟩⟩ : Cel))]) = runBytes pre ++ encAll (numsR KK ⟨r, m, y, d, ⟨f, g, b⟩⟩) := by rw [runBytes_append]; simp [runBytes]
              have HF21 : Hid (Own 5 .u8 w.heap.size w w21 v21 (enc (countR cs) ++ runBytes (pre ++ [(KK, (⟨r, m, y, d, ⟨f, g, b⟩⟩ : Cel))]))) := by unfold Hid; rw [e21, ← List.append_assoc]; exact hown
              clear hown e21
              go_wp2
              go_roundw
              case rel => exact ⟨k, pre ++ [(KK, (⟨r, m, y, d, ⟨f, g, b⟩⟩ : Cel))], by omega, rfl, by unfold Hid; rw [List.append_assoc, List.singleton_append, ← HRN.out]; exact HP.out, HF21⟩
              case measure => simp [intOf]; omega
            · obtain ⟨hw', hr, h0, hm, hn⟩ : (d = 1 ∨ d = 2) ∧ (0 ≤ r ∧ r ≤ 1114111) ∧ (m = 0 → y = 0) ∧ (0 ≤ m ∧ m ≤ 1114111) ∧ (0 ≤ y ∧ y ≤ 1114111) := by
                rcases hf with ⟨q, -⟩ | q
                · exact absurd q hd0
                · exact q
              have HRM := hide (runes_marks r m y d f g b hw')
              obtain ⟨hml, hmb⟩ := marks_bd r m y d f g b hm hn
              obtain ⟨ms, hms⟩ : ∃ ms, marksOf ⟨r, m, y, d, ⟨f, g, b⟩⟩ = ms := ⟨_, rfl⟩
              obtain ⟨R0, hR0⟩ : ∃ R0 : Nat, r = (R0 : Int) := ⟨r.toNat, by omega⟩
              have HNUM := hide (nums_at KK d NN R0 r m y f g b ms hd0 HNN.out hR0 hms)
              rw [hms] at HRM hml hmb
              have HMB := hide hmb
              obtain ⟨M, hM⟩ : ∃ M, ms.length = M := ⟨_, rfl⟩
              rw [hM] at hml HNUM
              have HM := hide hM
              have HR0 := hide hR0
              have hdz : (0 : Int) < (d : Int) := by omega
              obtain ⟨hr1, hr2⟩ := hr
              have hR0b : R0 ≤ 1114111 := by omega
              have hdn : d ≤ 2 := by omega
              obtain ⟨c0, c1, c2, c3, c4, c5, c6, -⟩ := cells7 HD10.out
              have lq := HD10.out.lt
              clear hd0 hf hms hM hmb hR0 hm hn h0 hw'
              go_wp2_with fail
              refine (rrunes_any r m y d f g b w10).mono ?_
              rw [HRM.out]
              rintro e w11 ⟨v11, rfl, hv11⟩
              obtain ⟨A11, c11, rfl, t11, n11, z11, -⟩ := hv11.tk
              have HV11 := hide (HV10.out.later hv11.bel)
              have HD11 := hide (HD10.out.later hv11.bel)
              have HN11 := hide (HL3.out.later hv11.bel)
              have HT11 := hide t11
              rw [List.length_cons, HM.out] at n11 ⊢
              clear hv11 t11 z11 c0 c1 c2 c3 c4 c5 c6 lq
              obtain ⟨c0, c1, c2, c3, c4, c5, c6, -⟩ := cells7 HD11.out
              have lq := HD11.out.lt
              have HI12 : Hid (Ints .u64 (w11.alloc (.cells #[.int .u64 r, .int .u64 (M : Int)] 22)) (some ⟨w11.heap.size, 0, none⟩) [r, (M : Int)]) := Ints.new .u64 w11 22 [r, (M : Int)]
              go_wp2_with (at_builtin; refine stopw ?_)
              unfold Hid
              refine wpList_catG elemU64 rfl _ _ rfl rfl rfl (HN11.out.later ((Below.refl _ _).alloc (Nat.le_refl _) _)) HI12.out rfl (by intro q; cases q) (by simp) (by omega) ?_
              intro v12 w12 hown12 hg12
              have hb12 : Below w11.heap.size w11 (w11.alloc (.cells #[.int .u64 r, .int .u64 (M : Int)] 22)) := (Below.refl _ _).alloc (Nat.le_refl _) _
              have HV12 := hide (own_other (HV11.out.later hb12) (HN11.out.later hb12) hg12 HG9.out (by decide))
              have HT12 := hide ((HT11.out.below hb12).keep (fun b cur hh => row_other (HN11.out.later hb12) hg12 b cur 3 (by decide) hh))
              have HN12 := hide hown12
              clear hown12 hg12 hb12 c0 c1 c2 c3 c4 c5 c6 lq
              go_wp2
              go_loopw [7, 9] (fun nv jv wj => ∃ t : Nat, t ≤ M ∧ jv = .int .i64 ((t : Int) + 1) ∧ Hid (Own 22 .u64 w9.heap.size w9 wj nv ([(KK : Int), (d : Int), (NN : Int)] ++ [r, (M : Int)] ++ ms.take t)) ∧ Hid (Own 5 .u8 w.heap.size w wj u3 (enc (countR cs) ++ runBytes pre)) ∧ Hid (Tk 3 .i64 wj A11 (r :: ms))) (fun _ jv _ => M + 1 - (intOf jv).toNat)
              case atStart => exact ⟨0, Nat.zero_le _, rfl, by unfold Hid; rw [List.take_zero, List.append_nil]; exact HN12.out, HV12, HT12⟩
              case round =>
                obtain ⟨t, ht, rfl, HNJ, HVJ, HTJ⟩ := hrel
                by_cases htl : t < M
                · obtain ⟨bj, oj, rfl, hcj, lj⟩ := HTJ.out.ints.at (i := t + 1) (by rw [List.length_cons, HM.out]; omega)
                  rw [List.getD_cons_succ] at hcj
                  obtain ⟨x, hx⟩ : ∃ x, ms.getD t 0 = x := ⟨_, rfl⟩
                  have hxb := HMB.out x (by rw [← hx]; exact getD_mem ms t (by rw [HM.out]; exact htl))
                  have HTS := hide (take_snoc ms t x (by rw [HM.out]; exact htl) hx)
                  rw [hx] at hcj
                  obtain ⟨hx1, hx2⟩ := hxb
                  have e1 : ((t : Int) + 1).toNat = t + 1 := by omega
                  have e2 : (t : Int) + 1 < (M : Int) + 1 := by omega
                  have e3 : (0 : Int) ≤ (t : Int) + 1 := by omega
                  clear hx
                  have HIJ : Hid (Ints .u64 (wr.alloc (.cells #[.int .u64 x] 22)) (some ⟨wr.heap.size, 0, none⟩) [x]) := Ints.new .u64 wr 22 [x]
                  obtain ⟨wj, hwj⟩ : ∃ wj, wr = wj := ⟨_, rfl⟩
                  have hbj : Below wr.heap.size wr (wr.alloc (.cells #[.int .u64 x] 22)) := (Below.refl _ _).alloc (Nat.le_refl _) _
                  have HBJ := hide hbj
                  clear hwj hbj
                  go_wp2_with (at_builtin; refine stopw ?_)
                  unfold Hid
                  refine wpList_catG elemU64 rfl _ _ rfl rfl rfl (HNJ.out.later HBJ.out) HIJ.out rfl (by intro q; cases q) (by simp only [List.length_append, List.length_take, List.length_cons, List.length_nil]; omega) (by omega) ?_
                  intro v13 w13 hown13 hg13
                  have HV13 := hide (own_other (HVJ.out.later HBJ.out) (HNJ.out.later HBJ.out) hg13 HG9.out (by decide))
                  have HT13 := hide ((HTJ.out.below HBJ.out).keep (fun b cur hh => row_other (HNJ.out.later HBJ.out) hg13 b cur 3 (by decide) hh))
                  rw [List.append_assoc, ← HTS.out] at hown13
                  have HN13 := hide hown13
                  clear hown13 hg13
                  go_wp2
                  go_roundw
                  case rel => exact ⟨t + 1, by omega, by go_num, HN13, HV13, HT13⟩
                  case measure => simp [intOf]; omega
                · have htm : t = M := by omega
                  have hfull : [(KK : Int), (d : Int), (NN : Int)] ++ [r, (M : Int)] ++ ms.take t = numsR KK ⟨r, m, y, d, ⟨f, g, b⟩⟩ := by
                    rw [HNUM.out, HR0.out, List.take_of_length_le (by rw [HM.out]; omega)]
                  rw [hfull] at HNJ
                  have HRL : Hid ((numsR KK ⟨r, m, y, d, ⟨f, g, b⟩⟩).length = M + 5) := by unfold Hid; rw [HNUM.out]; simp [HM.out]
                  have HRB : Hid (∀ z ∈ numsR KK ⟨r, m, y, d, ⟨f, g, b⟩⟩, 0 ≤ z ∧ z < 18446744073709551616) := by
                    unfold Hid
                    rw [HNUM.out]
                    intro z hz
                    rcases List.mem_append.1 hz with hz | hz
                    · simp at hz; omega
                    · have := HMB.out z hz; omega
                  obtain ⟨AJ, cJ, rfl, iJ, -, -⟩ := HNJ.out.form
                  rw [HRL.out]
                  have HIJ := hide iJ
                  have HV10 := hide HVJ.out
                  obtain ⟨w10, hw10⟩ : ∃ w5, w5 = wr := ⟨_, rfl⟩
                  subst hw10
                  clear hfull iJ htm HVJ
                  go_wp2_with fail
                  refine (nu_all_any _ _ _ _ _ HIJ.out HRL.out (by omega) HRB.out).mono ?_
                  rintro e w20 ⟨v20, rfl, hv20⟩
                  obtain ⟨A20, c20, rfl, i20, n20, z20, -⟩ := hv20.form2
                  have HV20 := hide (HV10.out.later hv20.bel)
                  have HI20 := hide i20
                  have HZ20 := hide z20
                  have hel := encAll_len (numsR KK ⟨r, m, y, d, ⟨f, g, b⟩⟩)
                  have hnl := numsR_len KK ⟨r, m, y, d, ⟨f, g, b⟩⟩
                  obtain ⟨L20, hL20⟩ : ∃ L20, (encAll (numsR KK ⟨r, m, y, d, ⟨f, g, b⟩⟩)).length = L20 := ⟨_, rfl⟩
                  rw [hL20] at hel n20 ⊢
                  have HL20 := hide hL20
                  clear hv20 i20 z20 hL20
                  go_wp2_with (at_builtin; refine stopw ?_)
                  unfold Hid
                  refine wpList_cat elemBytes rfl _ _ rfl rfl rfl HV20.out HI20.out HL20.out HZ20.out (by omega) (by omega) ?_
                  intro v21 w21 hown
                  have e21 : runBytes (pre ++ [(KK, (⟨r, m, y, d, ⟨f, g, b⟩⟩ : Cel))]) = runBytes pre ++ encAll (numsR KK ⟨r, m, y, d, ⟨f, g, b⟩⟩) := by rw [runBytes_append]; simp [runBytes]
                  have HF21 : Hid (Own 5 .u8 w.heap.size w w21 v21 (enc (countR cs) ++ runBytes (pre ++ [(KK, (⟨r, m, y, d, ⟨f, g, b⟩⟩ : Cel))]))) := by unfold Hid; rw [e21, ← List.append_assoc]; exact hown
                  clear hown e21
                  go_wp2
                  go_roundw
                  case rel => exact ⟨k, pre ++ [(KK, (⟨r, m, y, d, ⟨f, g, b⟩⟩ : Cel))], by omega, rfl, by unfold Hid; rw [List.append_assoc, List.singleton_append, ← HRN.out]; exact HP.out, HF21⟩
                  case measure => simp [intOf]; omega
        · obtain rfl : k = n := by omega
          have HRN := hide (runs_drop cs i k hlt (by rw [HN.out]; exact Nat.le_refl _) HQ.out (.inl HN.out.symm))
          have hki : i < k := hlt
          clear hbw
          go_wp2
          go_quiet (fail)
          obtain ⟨wx, hwx⟩ : ∃ wx, wr.drewN nq = wx := ⟨_, rfl⟩
          rw [hwx]
          have hbx : Below wo.heap.size wo wx := by rw [← hwx]; exact HBI.out.drewN _
          have HVX := hide (HV.out.later hbx)
          have hbw := HVX.out.bel
          obtain ⟨u0', u1', u2', u3', u4', u5', u6', l1'⟩ := (HC.out.below hbw).sevenC i (by rw [HN.out]; exact hlt) HCI.out
          obtain ⟨hp, hf⟩ := right_facts HRC.out
          obtain ⟨k0, k1⟩ := numN_bd (p := ⟨f, g, b⟩) hp
          obtain ⟨NN, hNN⟩ : ∃ NN : Nat, numN ⟨f, g, b⟩ = (NN : Int) := ⟨(numN ⟨f, g, b⟩).toNat, by omega⟩
          have HNN := hide hNN
          have hNb : NN ≤ 16927 := by omega
          rw [HCI.out] at HRN
          clear hwx hbx hbw hNN k0 k1 hp
          obtain ⟨W8, hW8⟩ : ∃ W8, wx.alloc (.cells #[.int .i64 r, .int .i64 m, .int .i64 y, .int .u8 (d : Int), .int .u8 (f : Int), .int .u8 (g : Int), .int .u8 (b : Int)] 100) = W8 := ⟨_, rfl⟩
          have hb8 : Below wx.heap.size wx W8 := by rw [← hW8]; exact (Below.refl _ _).alloc (Nat.le_refl _) _
          have HD8 : Hid (Whole W8 wx.heap.size 100 [.int .i64 r, .int .i64 m, .int .i64 y, .int .u8 (d : Int), .int .u8 (f : Int), .int .u8 (g : Int), .int .u8 (b : Int)]) := by unfold Hid; rw [← hW8]; exact Whole.new wx 100 [.int .i64 r, .int .i64 m, .int .i64 y, .int .u8 (d : Int), .int .u8 (f : Int), .int .u8 (g : Int), .int .u8 (b : Int)]
          have HV8 := hide (HVX.out.later hb8)
          have HW8 := hide hW8
          have hbl : (enc (countR cs) ++ runBytes pre).length ≤ 50000 := by
            have h1 := (enc_len (countR cs)).2
            have h2 := runBytes_len pre
            have h3 : pre.length ≤ 512 := by
              have h4 := congrArg List.length HP.out
              rw [List.length_append] at h4
              have h5 := runs_le cs
              have h6 := HN.out
              omega
            rw [List.length_append]
            omega
          obtain ⟨KK, hKK⟩ : ∃ KK, k - i = KK := ⟨_, rfl⟩
          rw [hKK] at HRN
          have hki2 : (k : Int) - (i : Int) = (KK : Int) := by omega
          have hKb : KK ≤ 512 := by omega
          have HKK := hide hKK
          clear hb8 hW8 hKK
          obtain ⟨c0, c1, c2, c3, c4, c5, c6, -⟩ := cells7 HD8.out
          have l8 := HD8.out.lt
          go_wp2
          rw [HW8.out]
          refine wp_region_chainL (fun w' => Below W8.heap.size W8 w') 12 [(0, 0), (0, 1), (0, 2), (0, 4), (0, 7), (0, 3), (0, 5), (0, 6), (1, 8), (1, 9), (1, 10), (1, 11), (3, 12)] (by kernel_rfl) (by kernel_rfl) (by kernel_rfl) (fun _ _ _ _ _ h => h) ?_ ?_
          · exact (Below.refl _ _).drewN 1
          refine chainL_take (v := ?_) (by simp only [List.getElem?_toArray, List.getElem?_cons_zero]; rfl) (by rfl) (fun w hS => ?_) ?_
          rotate_left
          · go_simp <;> with_reducible rfl
          simp only [Act.put, List.setIfInBounds_toArray, List.set_cons_zero, List.set_cons_succ]
          refine chainL_take (v := ?_) (by simp only [List.getElem?_toArray, List.getElem?_cons_zero, List.getElem?_cons_succ]; rfl) (by rfl) (fun w hS => ?_) ?_
          rotate_left
          · go_simp <;> with_reducible rfl
          simp only [Act.put, List.setIfInBounds_toArray, List.set_cons_zero, List.set_cons_succ]
          refine chainL_take (v := ?_) (by simp only [List.getElem?_toArray, List.getElem?_cons_zero, List.getElem?_cons_succ]; rfl) (by rfl) (fun w hS => ?_) ?_
          rotate_left
          · go_simp <;> with_reducible rfl
          simp only [Act.put, List.setIfInBounds_toArray, List.set_cons_zero, List.set_cons_succ]
          refine chainL_take (v := ?_) (by simp only [List.getElem?_toArray, List.getElem?_cons_zero, List.getElem?_cons_succ]; rfl) (by rfl) (fun w hS => ?_) ?_
          rotate_left
          · go_simp <;> with_reducible rfl
          simp only [Act.put, List.setIfInBounds_toArray, List.set_cons_zero, List.set_cons_succ]
          refine chainL_take (v := ?_) (by simp only [List.getElem?_toArray, List.getElem?_cons_zero, List.getElem?_cons_succ]; rfl) (by rfl) (fun w hS => ?_) ?_
          rotate_left
          · go_simp <;> with_reducible rfl
          simp only [Act.put, List.setIfInBounds_toArray, List.set_cons_zero, List.set_cons_succ]
          refine chainL_take (v := ?_) (by simp only [List.getElem?_toArray, List.getElem?_cons_zero, List.getElem?_cons_succ]; rfl) (by rfl) (fun w hS => ?_) ?_
          rotate_left
          · go_simp <;> with_reducible rfl
          simp only [Act.put, List.setIfInBounds_toArray, List.set_cons_zero, List.set_cons_succ]
          refine chainL_take (v := ?_) (by simp only [List.getElem?_toArray, List.getElem?_cons_zero, List.getElem?_cons_succ]; rfl) (by rfl) (fun w hS => ?_) ?_
          rotate_left
          · obtain ⟨c0, c1, c2, c3, c4, c5, c6, -⟩ := cells7 (HD8.out.later hS); go_simp <;> with_reducible rfl
          simp only [Act.put, List.setIfInBounds_toArray, List.set_cons_zero, List.set_cons_succ]
          refine chainL_take (v := ?_) (by simp only [List.getElem?_toArray, List.getElem?_cons_zero, List.getElem?_cons_succ]; rfl) (by rfl) (fun w hS => ?_) ?_
          rotate_left
          · go_simp <;> with_reducible rfl
          simp only [Act.put, List.setIfInBounds_toArray, List.set_cons_zero, List.set_cons_succ]
          refine chainL_alone (by simp only [List.getElem?_toArray, List.getElem?_cons_zero, List.getElem?_cons_succ]; rfl) ?_
          intro K hK
          go_wp2
          refine hK.out _ _ ((Below.refl _ _).drewN 1) ?_
          clear hK K
          refine chainL_alone (by simp only [List.getElem?_toArray, List.getElem?_cons_zero, List.getElem?_cons_succ]; rfl) ?_
          intro K hK
          go_wp2_with fail
          refine (rnumber_any f g b _).mono ?_
          rintro e w9 ⟨rfl, hb9⟩
          rw [HNN.out]
          have B9 : Below W8.heap.size W8 w9 := ((Below.refl _ _).drewN 1).trans hb9
          have HB9 := hide B9
          clear hb9
          go_wp2
          refine hK.out _ _ (HB9.out) ?_
          clear hK K
          refine chainL_alone (by simp only [List.getElem?_toArray, List.getElem?_cons_zero, List.getElem?_cons_succ]; rfl) ?_
          intro K hK
          go_wp2
          refine hK.out _ _ (HB9.out) ?_
          clear hK K
          refine chainL_alone (by simp only [List.getElem?_toArray, List.getElem?_cons_zero, List.getElem?_cons_succ]; rfl) ?_
          intro K hK
          go_wp2
          refine hK.out _ _ (HB9.out.alloc HB9.out.size _) ?_
          clear hK K
          refine chainL_late (by simp only [List.getElem?_toArray, List.getElem?_cons_zero, List.getElem?_cons_succ]; rfl) ?_
          intro K hK
          go_wp2
          refine hK.out _ _ ?_
          clear hK K
          refine chainL_nil ?_
          have HL3 := hide (lit3 w9 KK d NN)
          obtain ⟨w10, hw10⟩ : ∃ w10, w9.alloc (.cells #[.int .u64 (KK : Int), .int .u64 (d : Int), .int .u64 (NN : Int)] 22) = w10 := ⟨_, rfl⟩
          rw [hw10] at HL3 ⊢
          have HV10 := hide ((HV8.out.later HB9.out).later HL3.out.bel)
          have HD10 := hide ((HD8.out.later HB9.out).later HL3.out.bel)
          have HG9 : Hid (w.heap.size ≤ w9.heap.size) := Nat.le_trans (Nat.le_trans HV8.out.le HB9.out.size) (Nat.le_refl _)
          clear hw10 HD8 HV8 c0 c1 c2 c3 c4 c5 c6 l8
          by_cases hd0 : d = 0
          · have hnw : Hid (numsR KK ⟨r, m, y, d, ⟨f, g, b⟩⟩ = [(KK : Int), (d : Int), (NN : Int)]) := by
              unfold Hid numsR cellNums
              simp only
              rw [if_pos hd0, HNN.out]
              rfl
            obtain ⟨c0, c1, c2, c3, c4, c5, c6, -⟩ := cells7 HD10.out
            have lq := HD10.out.lt
            have hdz : ¬ ((0 : Int) < (d : Int)) := by omega
            have hdz2 : decide ((0 : Int) < (d : Int)) = false := by simp; omega
            have hdn : d < 256 := by omega
            have HR : Hid (Ints .u64 w10 (some ⟨w9.heap.size, 0, none⟩) (numsR KK ⟨r, m, y, d, ⟨f, g, b⟩⟩)) := by
              obtain ⟨A5, c5, e5, i5, -⟩ := HL3.out.form
              cases e5
              unfold Hid
              rw [hnw.out]
              exact i5
            have HRL : Hid ((numsR KK ⟨r, m, y, d, ⟨f, g, b⟩⟩).length = 3) := by unfold Hid; rw [hnw.out]; rfl
            have HRB : Hid (∀ z ∈ numsR KK ⟨r, m, y, d, ⟨f, g, b⟩⟩, 0 ≤ z ∧ z < 18446744073709551616) := by unfold Hid; rw [hnw.out]; intro z hz; simp at hz; omega
            clear hd0 hf
            go_wp2_with fail
            refine (nu_all_any _ _ _ _ w10 HR.out HRL.out (by omega) HRB.out).mono ?_
            rintro e w20 ⟨v20, rfl, hv20⟩
            obtain ⟨A20, c20, rfl, i20, n20, z20, -⟩ := hv20.form2
            have HV20 := hide (HV10.out.later hv20.bel)
            have HI20 := hide i20
            have HZ20 := hide z20
            have hel := encAll_len (numsR KK ⟨r, m, y, d, ⟨f, g, b⟩⟩)
            have hnl := numsR_len KK ⟨r, m, y, d, ⟨f, g, b⟩⟩
            obtain ⟨L20, hL20⟩ : ∃ L20, (encAll (numsR KK ⟨r, m, y, d, ⟨f, g, b⟩⟩)).length = L20 := ⟨_, rfl⟩
            rw [hL20] at hel n20 ⊢
            have HL20 := hide hL20
            clear hv20 i20 z20 hL20
            go_wp2_with (at_builtin; refine stopw ?_)
            unfold Hid
            refine wpList_cat elemBytes rfl _ _ rfl rfl rfl HV20.out HI20.out HL20.out HZ20.out (by omega) (by omega) ?_
            intro v21 w21 hown
            have e21 : runBytes (pre ++ [(KK, (⟨r, m, y, d, ⟨f, g, b⟩⟩ : Cel))]) = runBytes pre ++ encAll (numsR KK ⟨r, m, y, d, ⟨f, g, b⟩⟩) := by rw [runBytes_append]; simp [runBytes]
            have HF21 : Hid (Own 5 .u8 w.heap.size w w21 v21 (enc (countR cs) ++ runBytes (pre ++ [(KK, (⟨r, m, y, d, ⟨f, g, b⟩⟩ : Cel))]))) := by unfold Hid; rw [e21, ← List.append_assoc]; exact hown
            clear hown e21
            go_wp2
            go_roundw
            case rel => exact ⟨k, pre ++ [(KK, (⟨r, m, y, d, ⟨f, g, b⟩⟩ : Cel))], by omega, rfl, by unfold Hid; rw [List.append_assoc, List.singleton_append, ← HRN.out]; exact HP.out, HF21⟩
            case measure => simp [intOf]; omega
          · obtain ⟨hw', hr, h0, hm, hn⟩ : (d = 1 ∨ d = 2) ∧ (0 ≤ r ∧ r ≤ 1114111) ∧ (m = 0 → y = 0) ∧ (0 ≤ m ∧ m ≤ 1114111) ∧ (0 ≤ y ∧ y ≤ 1114111) := by
              rcases hf with ⟨q, -⟩ | q
              · exact absurd q hd0
              · exact q
            have HRM := hide (runes_marks r m y d f g b hw')
            obtain ⟨hml, hmb⟩ := marks_bd r m y d f g b hm hn
            obtain ⟨ms, hms⟩ : ∃ ms, marksOf ⟨r, m, y, d, ⟨f, g, b⟩⟩ = ms := ⟨_, rfl⟩
            obtain ⟨R0, hR0⟩ : ∃ R0 : Nat, r = (R0 : Int) := ⟨r.toNat, by omega⟩
            have HNUM := hide (nums_at KK d NN R0 r m y f g b ms hd0 HNN.out hR0 hms)
            rw [hms] at HRM hml hmb
            have HMB := hide hmb
            obtain ⟨M, hM⟩ : ∃ M, ms.length = M := ⟨_, rfl⟩
            rw [hM] at hml HNUM
            have HM := hide hM
            have HR0 := hide hR0
            have hdz : (0 : Int) < (d : Int) := by omega
            obtain ⟨hr1, hr2⟩ := hr
            have hR0b : R0 ≤ 1114111 := by omega
            have hdn : d ≤ 2 := by omega
            obtain ⟨c0, c1, c2, c3, c4, c5, c6, -⟩ := cells7 HD10.out
            have lq := HD10.out.lt
            clear hd0 hf hms hM hmb hR0 hm hn h0 hw'
            go_wp2_with fail
            refine (rrunes_any r m y d f g b w10).mono ?_
            rw [HRM.out]
            rintro e w11 ⟨v11, rfl, hv11⟩
            obtain ⟨A11, c11, rfl, t11, n11, z11, -⟩ := hv11.tk
            have HV11 := hide (HV10.out.later hv11.bel)
            have HD11 := hide (HD10.out.later hv11.bel)
            have HN11 := hide (HL3.out.later hv11.bel)
            have HT11 := hide t11
            rw [List.length_cons, HM.out] at n11 ⊢
            clear hv11 t11 z11 c0 c1 c2 c3 c4 c5 c6 lq
            obtain ⟨c0, c1, c2, c3, c4, c5, c6, -⟩ := cells7 HD11.out
            have lq := HD11.out.lt
            have HI12 : Hid (Ints .u64 (w11.alloc (.cells #[.int .u64 r, .int .u64 (M : Int)] 22)) (some ⟨w11.heap.size, 0, none⟩) [r, (M : Int)]) := Ints.new .u64 w11 22 [r, (M : Int)]
            go_wp2_with (at_builtin; refine stopw ?_)
            unfold Hid
            refine wpList_catG elemU64 rfl _ _ rfl rfl rfl (HN11.out.later ((Below.refl _ _).alloc (Nat.le_refl _) _)) HI12.out rfl (by intro q; cases q) (by simp) (by omega) ?_
            intro v12 w12 hown12 hg12
            have hb12 : Below w11.heap.size w11 (w11.alloc (.cells #[.int .u64 r, .int .u64 (M : Int)] 22)) := (Below.refl _ _).alloc (Nat.le_refl _) _
            have HV12 := hide (own_other (HV11.out.later hb12) (HN11.out.later hb12) hg12 HG9.out (by decide))
            have HT12 := hide ((HT11.out.below hb12).keep (fun b cur hh => row_other (HN11.out.later hb12) hg12 b cur 3 (by decide) hh))
            have HN12 := hide hown12
            clear hown12 hg12 hb12 c0 c1 c2 c3 c4 c5 c6 lq
            go_wp2
            go_loopw [7, 9] (fun nv jv wj => ∃ t : Nat, t ≤ M ∧ jv = .int .i64 ((t : Int) + 1) ∧ Hid (Own 22 .u64 w9.heap.size w9 wj nv ([(KK : Int), (d : Int), (NN : Int)] ++ [r, (M : Int)] ++ ms.take t)) ∧ Hid (Own 5 .u8 w.heap.size w wj u3 (enc (countR cs) ++ runBytes pre)) ∧ Hid (Tk 3 .i64 wj A11 (r :: ms))) (fun _ jv _ => M + 1 - (intOf jv).toNat)
            case atStart => exact ⟨0, Nat.zero_le _, rfl, by unfold Hid; rw [List.take_zero, List.append_nil]; exact HN12.out, HV12, HT12⟩
            case round =>
              obtain ⟨t, ht, rfl, HNJ, HVJ, HTJ⟩ := hrel
              by_cases htl : t < M
              · obtain ⟨bj, oj, rfl, hcj, lj⟩ := HTJ.out.ints.at (i := t + 1) (by rw [List.length_cons, HM.out]; omega)
                rw [List.getD_cons_succ] at hcj
                obtain ⟨x, hx⟩ : ∃ x, ms.getD t 0 = x := ⟨_, rfl⟩
                have hxb := HMB.out x (by rw [← hx]; exact getD_mem ms t (by rw [HM.out]; exact htl))
                have HTS := hide (take_snoc ms t x (by rw [HM.out]; exact htl) hx)
                rw [hx] at hcj
                obtain ⟨hx1, hx2⟩ := hxb
                have e1 : ((t : Int) + 1).toNat = t + 1 := by omega
                have e2 : (t : Int) + 1 < (M : Int) + 1 := by omega
                have e3 : (0 : Int) ≤ (t : Int) + 1 := by omega
                clear hx
                have HIJ : Hid (Ints .u64 (wr.alloc (.cells #[.int .u64 x] 22)) (some ⟨wr.heap.size, 0, none⟩) [x]) := Ints.new .u64 wr 22 [x]
                obtain ⟨wj, hwj⟩ : ∃ wj, wr = wj := ⟨_, rfl⟩
                have hbj : Below wr.heap.size wr (wr.alloc (.cells #[.int .u64 x] 22)) := (Below.refl _ _).alloc (Nat.le_refl _) _
                have HBJ := hide hbj
                clear hwj hbj
                go_wp2_with (at_builtin; refine stopw ?_)
                unfold Hid
                refine wpList_catG elemU64 rfl _ _ rfl rfl rfl (HNJ.out.later HBJ.out) HIJ.out rfl (by intro q; cases q) (by simp only [List.length_append, List.length_take, List.length_cons, List.length_nil]; omega) (by omega) ?_
                intro v13 w13 hown13 hg13
                have HV13 := hide (own_other (HVJ.out.later HBJ.out) (HNJ.out.later HBJ.out) hg13 HG9.out (by decide))
                have HT13 := hide ((HTJ.out.below HBJ.out).keep (fun b cur hh => row_other (HNJ.out.later HBJ.out) hg13 b cur 3 (by decide) hh))
                rw [List.append_assoc, ← HTS.out] at hown13
                have HN13 := hide hown13
                clear hown13 hg13
                go_wp2
                go_roundw
                case rel => exact ⟨t + 1, by omega, by go_num, HN13, HV13, HT13⟩
                case measure => simp [intOf]; omega
              · have htm : t = M := by omega
                have hfull : [(KK : Int), (d : Int), (NN : Int)] ++ [r, (M : Int)] ++ ms.take t = numsR KK ⟨r, m, y, d, ⟨f, g, b⟩⟩ := by
                  rw [HNUM.out, HR0.out, List.take_of_length_le (by rw [HM.out]; omega)]
                rw [hfull] at HNJ
                have HRL : Hid ((numsR KK ⟨r, m, y, d, ⟨f, g, b⟩⟩).length = M + 5) := by unfold Hid; rw [HNUM.out]; simp [HM.out]
                have HRB : Hid (∀ z ∈ numsR KK ⟨r, m, y, d, ⟨f, g, b⟩⟩, 0 ≤ z ∧ z < 18446744073709551616) := by
                  unfold Hid
                  rw [HNUM.out]
                  intro z hz
                  rcases List.mem_append.1 hz with hz | hz
                  · simp at hz; omega
                  · have := HMB.out z hz; omega
                obtain ⟨AJ, cJ, rfl, iJ, -, -⟩ := HNJ.out.form
                rw [HRL.out]
                have HIJ := hide iJ
                have HV10 := hide HVJ.out
                obtain ⟨w10, hw10⟩ : ∃ w5, w5 = wr := ⟨_, rfl⟩
                subst hw10
                clear hfull iJ htm HVJ
                go_wp2_with fail
                refine (nu_all_any _ _ _ _ _ HIJ.out HRL.out (by omega) HRB.out).mono ?_
                rintro e w20 ⟨v20, rfl, hv20⟩
                obtain ⟨A20, c20, rfl, i20, n20, z20, -⟩ := hv20.form2
                have HV20 := hide (HV10.out.later hv20.bel)
                have HI20 := hide i20
                have HZ20 := hide z20
                have hel := encAll_len (numsR KK ⟨r, m, y, d, ⟨f, g, b⟩⟩)
                have hnl := numsR_len KK ⟨r, m, y, d, ⟨f, g, b⟩⟩
                obtain ⟨L20, hL20⟩ : ∃ L20, (encAll (numsR KK ⟨r, m, y, d, ⟨f, g, b⟩⟩)).length = L20 := ⟨_, rfl⟩
                rw [hL20] at hel n20 ⊢
                have HL20 := hide hL20
                clear hv20 i20 z20 hL20
                go_wp2_with (at_builtin; refine stopw ?_)
                unfold Hid
                refine wpList_cat elemBytes rfl _ _ rfl rfl rfl HV20.out HI20.out HL20.out HZ20.out (by omega) (by omega) ?_
                intro v21 w21 hown
                have e21 : runBytes (pre ++ [(KK, (⟨r, m, y, d, ⟨f, g, b⟩⟩ : Cel))]) = runBytes pre ++ encAll (numsR KK ⟨r, m, y, d, ⟨f, g, b⟩⟩) := by rw [runBytes_append]; simp [runBytes]
                have HF21 : Hid (Own 5 .u8 w.heap.size w w21 v21 (enc (countR cs) ++ runBytes (pre ++ [(KK, (⟨r, m, y, d, ⟨f, g, b⟩⟩ : Cel))]))) := by unfold Hid; rw [e21, ← List.append_assoc]; exact hown
                clear hown e21
                go_wp2
                go_roundw
                case rel => exact ⟨k, pre ++ [(KK, (⟨r, m, y, d, ⟨f, g, b⟩⟩ : Cel))], by omega, rfl, by unfold Hid; rw [List.append_assoc, List.singleton_append, ← HRN.out]; exact HP.out, HF21⟩
                case measure => simp [intOf]; omega
    · have HF : Hid (enc (countR cs) ++ runBytes pre = bytesR cs) := by
        have := HP.out
        rw [List.drop_eq_nil_of_le (by rw [HN.out]; omega), runsOf, List.append_nil] at this
        unfold Hid bytesR
        rw [this]
      rw [HF.out] at HV
      go_wp2
      go_ret
      exact ⟨_, rfl, HV.out⟩
def misB (k c : Nat) : Bool := decide (k = 9 ∧ 1 < c ∨ 0 < k ∧ c = 0)

theorem mis_any (k c : Nat) (w : World) (hk : k ≤ 1000000) (hc : c ≤ 255) :
    Calls Tryz.prog 97 #[.int .i64 k, .int .u8 c] w fun e w' => e = .returned (.bool (misB k c)) ∧ w = w' := by
  by_cases h0 : c = 0
  · by_cases h1 : 0 < k
    · have H : Hid (misB k c = true) := by unfold Hid misB; simp; omega
      subst h0
      go_enter Tryz.func97, Tryz.ntmps97
      go_wp2
      go_ret
      exact ⟨ret_bool H.out.symm, rfl⟩
    · have H : Hid (misB k c = false) := by unfold Hid misB; simp; omega
      obtain rfl : k = 0 := by omega
      subst h0
      go_enter Tryz.func97, Tryz.ntmps97
      go_wp2
      go_ret
      exact ⟨ret_bool H.out.symm, rfl⟩
  · have h2 : ((c : Int) == 0) = false := by simp; omega
    by_cases h1 : k = 9
    · subst h1
      by_cases h3 : 1 < c
      · have H : Hid (misB 9 c = true) := by unfold Hid misB; simp; omega
        have h3' : decide ((1 : Int) < (c : Int)) = true := by simp; omega
        go_enter Tryz.func97, Tryz.ntmps97
        go_wp2
        go_ret
        exact ⟨ret_bool H.out.symm, rfl⟩
      · have H : Hid (misB 9 c = false) := by unfold Hid misB; simp; omega
        have h3' : decide ((1 : Int) < (c : Int)) = false := by simp; omega
        go_enter Tryz.func97, Tryz.ntmps97
        go_wp2
        go_ret
        exact ⟨ret_bool H.out.symm, rfl⟩
    · have H : Hid (misB k c = false) := by unfold Hid misB; simp; omega
      have h4 : ((k : Int) == 9) = false := by simp; omega
      go_enter Tryz.func97, Tryz.ntmps97
      go_wp2
      go_ret
      exact ⟨ret_bool H.out.symm, rfl⟩

def RdPost (r : Int × Int × Int) (w : World) (e : Ending) (w' : World) : Prop := e = .returned (.tuple #[.int .u64 r.1, .int .i64 r.2.1, .int .i64 r.2.2]) ∧ w = w'

theorem and127_8_all : ∀ c : Fin 256, bits .and .u8 ((c.val : Nat) : Int) 127 = ((c.val % 128 : Nat) : Int) := by decide +kernel
theorem and127_8 (c : Nat) (h : c ≤ 255) : bits .and .u8 (c : Int) 127 = ((c % 128 : Nat) : Int) := and127_8_all ⟨c, by omega⟩
theorem digit_bd (k c : Nat) (hk : k ≤ 9) (h9 : k = 9 → c ≤ 1) : c % 128 * 128 ^ k < 18446744073709551616 := by
  rcases Nat.lt_or_ge k 9 with h | h
  · have h1 : (128 : Nat) ^ k ≤ 128 ^ 8 := Nat.pow_le_pow_right (by omega) (by omega)
    have e8 : (128 : Nat) ^ 8 = 72057594037927936 := by decide
    have : c % 128 * 128 ^ k ≤ 127 * 128 ^ 8 := Nat.mul_le_mul (by omega) h1
    omega
  · obtain rfl : k = 9 := by omega
    have e9 : (128 : Nat) ^ 9 = 9223372036854775808 := by decide
    have := h9 rfl
    rw [e9]; omega
theorem pow128 (k : Nat) : (128 : Nat) ^ k = 2 ^ (7 * k) := by rw [Nat.pow_mul]
theorem or_shift (m c k : Nat) (hk : k ≤ 9) (hm : m < 128 ^ k) (hc : c ≤ 255) (h9 : k = 9 → c ≤ 1) :
    bits .or .u64 (m : Int) (IntKind.u64.wrap (IntKind.u64.wrap (bits .and .u8 (c : Int) 127) * 2 ^ (7 * k))) = ((m + c % 128 * 128 ^ k : Nat) : Int) := by
  have hd := digit_bd k c hk h9
  have hmm : m < 18446744073709551616 := by
    have h1 : (128 : Nat) ^ k ≤ 128 ^ 9 := Nat.pow_le_pow_right (by omega) hk
    have e9 : (128 : Nat) ^ 9 = 9223372036854775808 := by decide
    omega
  rw [and127_8 c hc, IntKind.wrap_u64 ((c % 128 : Nat) : Int), show ((c % 128 : Nat) : Int) % 18446744073709551616 = ((c % 128 : Nat) : Int) by omega]
  have e : ((c % 128 : Nat) : Int) * 2 ^ (7 * k) = ((c % 128 * 128 ^ k : Nat) : Int) := by
    rw [pow128, Int.natCast_mul, Int.natCast_pow]; rfl
  rw [e, IntKind.wrap_u64, show ((c % 128 * 128 ^ k : Nat) : Int) % 18446744073709551616 = ((c % 128 * 128 ^ k : Nat) : Int) by omega, u64_or_nat m _ hmm hd]
  congr 1
  rw [pow128] at hm ⊢
  rw [Nat.or_comm, Nat.mul_comm, ← Nat.two_pow_add_eq_or_of_lt hm, Nat.add_comm]
theorem step_bd (m c k : Nat) (hm : m < 128 ^ k) : m + c % 128 * 128 ^ k < 128 ^ (k + 1) := by
  rw [Nat.pow_succ]
  have : c % 128 * 128 ^ k ≤ 127 * 128 ^ k := Nat.mul_le_mul_right _ (by omega)
  omega

theorem rd_mis (k m c : Nat) (r : List Int) (h : misB k c = true) : rd k m ((c : Int) :: r) = (0, 0, 3) := by
  have h' : k = 9 ∧ 1 < c ∨ 0 < k ∧ c = 0 := by simpa [misB] using h
  rw [rd, if_pos (by omega)]
theorem rd_end (k m c : Nat) (r : List Int) (h : ¬ (k = 9 ∧ 1 < c ∨ 0 < k ∧ c = 0)) (hc : c < 128) : rd k m ((c : Int) :: r) = (((m + c % 128 * 128 ^ k : Nat) : Int), ((k + 1 : Nat) : Int), 0) := by
  rw [rd, if_neg (by omega), if_pos (by omega)]
  rfl
theorem rd_on (k m c : Nat) (r : List Int) (h : ¬ (k = 9 ∧ 1 < c ∨ 0 < k ∧ c = 0)) (hc : ¬ c < 128) : rd k m ((c : Int) :: r) = rd (k + 1) (m + c % 128 * 128 ^ k) r := by
  rw [rd, if_neg (by omega), if_neg (by omega)]
  rfl

/-- The frame at the jump: the error's slot holds 3. -/
def AtWrong (a : Act) : Prop := ∃ u0 u1 u2 u3 u4 u5 u7 u8 u9 u10 u11 u12 u13 u14 u15 u16 u17 u18 u19 u20 u21 u22 u23 u24 u25 u26 u27 u28 u29 u30 u31 u32 u33, a = { tmps := #[u0, u1, u2, u3, u4, u5, .int .i64 3, u7, u8, u9, u10, u11, u12, u13, u14, u15, u16, u17, u18, u19, u20, u21, u22, u23, u24, u25, u26, u27, u28, u29, u30, u31, u32, u33], defers := [] }

theorem read_any (a : Option Addr) (len cap : Nat) (zs : List Int) (w : World) (h : Ints .u8 w a zs) (hl : zs.length = len) (_hlen : len ≤ 1000000) (hz : Byte zs) :
    Calls Tryz.prog 85 #[.slice a len cap] w (RdPost (rd 0 0 zs) w) := by
  have HL := hide hl
  clear hl
  go_enter Tryz.func85, Tryz.ntmps85
  go_wp2
  refine wp_scope_jumps 0 (fun a' w' => w = w' ∧ AtWrong a' ∧ Hid (rd 0 0 zs = (0, 0, 3))) (fun _ _ => 0) rfl ?_ ?_
  · go_wp2
    go_loop [5, 6, 7, 8, 11] (fun n e _ _ i => ∃ k m : Nat, k ≤ 9 ∧ k ≤ len ∧ i = .int .i64 k ∧ e = .int .i64 4 ∧ n = .int .u64 m ∧ m < 128 ^ k ∧ rd k m (zs.drop k) = rd 0 0 zs)
      (fun _ _ _ _ i => len - (intOf i).toNat)
    case atStart => exact ⟨0, 0, by omega, Nat.zero_le _, rfl, rfl, rfl, by simp, by simp⟩
    case round =>
      obtain ⟨k, m, hk9, hk, rfl, rfl, rfl, hm, hrd⟩ := hrel
      have HR := hide hrd
      clear hrd
      by_cases hlt : k < len
      · obtain ⟨b, off, rfl, hc, hb⟩ := h.at (i := k) (by rw [HL.out]; exact hlt)
        obtain ⟨c, hn, hc255⟩ := getD_byte zs hz k (by rw [HL.out]; exact hlt)
        have HD := hide (drop_at zs k c (by rw [HL.out]; exact hlt) hn)
        rw [hn] at hc
        clear hn
        by_cases hmis : misB k c = true
        · go_wp2_with (go_at_call 97; refine (mis_any k c _ (by omega) hc255).mono ?_; rintro e w' ⟨rfl, rfl⟩)
          go_step3
          refine ⟨rfl, rfl, ⟨_, _, _, _, _, _, _, _, _, _, _, _, _, _, _, _, _, _, _, _, _, _, _, _, _, _, _, _, _, _, _, _, _, rfl⟩, ?_⟩
          rw [← HR.out, HD.out]
          exact rd_mis k m c _ hmis
        · have hmis' : misB k c = false := by simpa using hmis
          have hno : ¬ (k = 9 ∧ 1 < c ∨ 0 < k ∧ c = 0) := by simpa [misB] using hmis
          have HO := hide (or_shift m c k hk9 hm hc255 (by omega))
          have hsb := step_bd m c k hm
          clear hmis
          by_cases hc128 : c < 128
          · go_wp2_with (go_at_call 97; refine (mis_any k c _ (by omega) hc255).mono ?_; rintro e w' ⟨rfl, rfl⟩)
            simp only [Exit.jump]
            go_ret3
            refine ⟨?_, rfl⟩
            rw [← HR.out, HD.out, rd_end k m c _ hno hc128, ← HO.out]
            rfl
          · go_wp2_with (go_at_call 97; refine (mis_any k c _ (by omega) hc255).mono ?_; rintro e w' ⟨rfl, rfl⟩)
            go_round
            case rel =>
              refine ⟨k + 1, m + c % 128 * 128 ^ k, by omega, by omega, by go_num, rfl, ?_, hsb, ?_⟩
              · rw [← HO.out]
              · rw [← HR.out, HD.out, rd_on k m c _ hno hc128]
            case measure => simp [intOf]; omega
      · go_wp2
        go_step3
        go_wp2
        simp only [Exit.jump]
        go_ret3
        refine ⟨?_, rfl⟩
        rw [← HR.out, List.drop_eq_nil_of_le (by rw [HL.out]; omega)]
        rfl
  · rintro a' w' ⟨rfl, ⟨u0, u1, u2, u3, u4, u5, u7, u8, u9, u10, u11, u12, u13, u14, u15, u16, u17, u18, u19, u20, u21, u22, u23, u24, u25, u26, u27, u28, u29, u30, u31, u32, u33, rfl⟩, H3⟩
    go_wp2
    simp only [Exit.jump]
    go_ret3
    refine ⟨?_, rfl⟩
    rw [H3.out]
    rfl
end
end Go.Proofs.YtcbdokocnjoilaaGreatDoor
