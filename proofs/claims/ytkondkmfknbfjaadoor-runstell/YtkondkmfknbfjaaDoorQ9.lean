/-
  Contracts and plain mathematics of RnRef2.
-/
import Derived.Test.YtkondkmfknbfjaaDoorQ7
import Derived.Test.YtkondkmfknbfjaaDoorQ8
import Derived.Test.YtkondkmfknbfjaaDoorQ5
import Derived.Test.YtkondkmfknbfjaaDoorQ6
namespace Go.Proofs.YtkondkmfknbfjaaDoor
set_option maxRecDepth 100000
set_option linter.unusedVariables false
set_option maxHeartbeats 8000000
section
open Go.ChangeShapes Go.WideShapes Go.ChangeAt Go.RowKit
/-- A row stays, where another one, of another type, grows. -/
theorem own_other {e e' : TypeId} {k k' : IntKind} {B B' : Nat} {w w2 wr w1 : World} {v v' : Value} {bs bs' : List Int} (ho : Own e' k' B w wr v' bs') (hn : Own e k B' w2 wr v bs) (hg : wr.grownBy w1 v.ownBlock) (hB : B ≤ B') (hne : e ≠ e') : Own e' k' B w w1 v' bs' := by
  refine ⟨ho.cl.keep fun g cur hh => ?_, ho.bel.grown hg ho.le (fun g hg' => Nat.le_trans hB (own_ge hn.own g hg')), Nat.le_trans ho.le hg.size⟩
  refine hg.block g (Array.getElem?_eq_some_iff.1 hh).1 ?_
  intro e
  rcases hn.own.2 with ⟨rfl, _⟩ | ⟨g', cap, cur', rfl, _, hh', _⟩
  · simp [Value.ownBlock] at e
  · obtain rfl : g = g' := by simpa [Value.ownBlock] using e
    rw [hh] at hh'
    simp only [Option.some.injEq, Obj.cells.injEq] at hh'
    exact hne hh'.2.1.symm
theorem row_other {e : TypeId} {k : IntKind} {B' : Nat} {w2 wr w1 : World} {v : Value} {bs : List Int} (hn : Own e k B' w2 wr v bs) (hg : wr.grownBy w1 v.ownBlock) (b : Nat) (cur : Array Value) (t : TypeId) (ht : e ≠ t) (hb : wr.heap[b]? = some (Obj.cells cur t (0, 0))) : w1.heap[b]? = wr.heap[b]? := by
  refine hg.block b (Array.getElem?_eq_some_iff.1 hb).1 ?_
  intro q
  rcases hn.own.2 with ⟨rfl, _⟩ | ⟨g', cap, cur', rfl, _, hh', _⟩
  · simp [Value.ownBlock] at q
  · obtain rfl : b = g' := by simpa [Value.ownBlock] using q
    rw [hb] at hh'
    simp only [Option.some.injEq, Obj.cells.injEq] at hh'
    exact ht hh'.2.1.symm
theorem numsR_len (k : Nat) (c : Cel) : (numsR k c).length ≤ 7 := by
  unfold numsR cellNums marksOf
  split
  · simp
  · split <;> split <;> simp
theorem nums_at (KK d NN R0 : Nat) (r m y : Int) (f g b : Nat) (ms : List Int) (hd : ¬ d = 0) (hN : numN ⟨f, g, b⟩ = (NN : Int)) (hr : r = (R0 : Int)) (hms : marksOf ⟨r, m, y, d, ⟨f, g, b⟩⟩ = ms) : numsR KK ⟨r, m, y, d, ⟨f, g, b⟩⟩ = [(KK : Int), (d : Int), (NN : Int)] ++ [(R0 : Int), (ms.length : Int)] ++ ms := by
  unfold numsR cellNums
  simp only
  rw [if_neg hd, hN, hms, hr]
  rfl
theorem elemU64 : Elem Tryd.prog 79 42 .u64 8 := ⟨Tryd.underlying79, by kernel_rfl⟩
theorem lit3 (w : World) (a b c : Nat) : Own 42 .u64 w.heap.size w (w.alloc (.cells #[.int .u64 (a : Int), .int .u64 (b : Int), .int .u64 (c : Int)] 42)) (.slice (some ⟨w.heap.size, 0, none⟩) 3 3) [(a : Int), (b : Int), (c : Int)] := Own.lit w 42 .u64 [(a : Int), (b : Int), (c : Int)] 3 rfl (by omega)
theorem run_facts {cs : List Cel} (hw : cs.all rightC = true) {i : Nat} (hi : i < cs.length) : rightC (cAt cs i) = true := by
  have := get_cAt cs i hi
  exact List.all_eq_true.1 hw _ (List.mem_of_getElem? this)

theorem rrbytes_any (A : Option Addr) (n c : Nat) (cs : List Cel) (w : World) (h : Cels .i64 w A cs) (hn : cs.length = n) (hl : n ≤ 512) (hw : cs.all rightC = true) :
    Calls Tryd.prog 15 #[.slice A n c] w (Made 5 .u8 w (bytesR cs)) := by
  have HC := hide h
  have HN := hide hn
  have HW := hide hw
  have eqC' := @eqlC
  have hcl : countR cs ≤ 512 := by rw [← runs_count]; have := runs_le cs; omega
  clear h hn hw
  go_enter Tryd.func15, Tryd.ntmps15
  go_wp2_with fail
  refine (rrcount_any A n c cs w HC.out HN.out (by omega)).mono ?_
  rintro e w0 ⟨rfl, hb0⟩
  have HB0 := hide hb0
  clear hb0
  go_wp2_with fail
  refine (nu_rbytes_any (countR cs) w0 (by omega)).mono ?_
  rintro e w1 ⟨v1, rfl, hv1⟩
  have HV1 := hide (hv1.from HB0.out HB0.out.size)
  clear hv1
  go_wp2
  go_loopw [3, 4] (fun v iv wr => ∃ (i : Nat) (pre : List (Nat × Cel)), i ≤ n ∧ iv = .int .i64 i ∧ Hid (pre ++ runsOf (cs.drop i) = runsOf cs) ∧ Hid (Own 5 .u8 w.heap.size w wr v (enc (countR cs) ++ runBytes pre))) (fun _ iv _ => n - (intOf iv).toNat)
  case atStart => exact ⟨0, [], Nat.zero_le _, rfl, rfl, by unfold Hid; simpa [runBytes] using HV1.out⟩
  case round =>
    obtain ⟨i, pre, hi, rfl, HP, HV⟩ := hrel
    by_cases hlt : i < n
    · have hrc := run_facts HW.out (i := i) (by rw [HN.out]; exact hlt)
      obtain ⟨⟨r, m, y, d, ⟨f, g, b⟩⟩, hc⟩ : ∃ q, cAt cs i = q := ⟨_, rfl⟩
      rw [hc] at hrc
      have HCI := hide hc
      have HRC := hide hrc
      clear hc hrc
      obtain ⟨wo, rfl⟩ : ∃ w5, w5 = wr := ⟨_, rfl⟩
      obtain ⟨vv, hvv⟩ : ∃ vv, u3 = vv := ⟨_, rfl⟩
      subst hvv
      go_wp2
      go_loopw [5] (fun kv wi => ∃ k : Nat, i ≤ k ∧ k ≤ n ∧ kv = .int .i64 k ∧ Hid (∀ p, i ≤ p → p < k → cAt cs p = cAt cs i) ∧ Below wo.heap.size wo wi) (fun kv _ => n - (intOf kv).toNat)
      case atStart => exact ⟨i, Nat.le_refl _, by omega, rfl, (fun p h1 h2 => by omega), Below.refl _ _⟩
      case round =>
        obtain ⟨k, hik, hkn, rfl, HQ, hbi⟩ := hrel
        have HBI := hide hbi
        clear hbi
        have hbw := HV.out.bel.trans (HBI.out.mono HV.out.le)
        obtain ⟨b1, o1, rfl, l1, -⟩ := HC.out.at (i := i) (by rw [HN.out]; exact hlt)
        obtain ⟨u0', u1', u2', u3', u4', u5', u6', l1'⟩ := (HC.out.below hbw).sevenC i (by rw [HN.out]; exact hlt) HCI.out
        by_cases hk : k < n
        · obtain ⟨⟨r', m', y', d', ⟨f', g', b'⟩⟩, hck⟩ : ∃ q, cAt cs k = q := ⟨_, rfl⟩
          obtain ⟨v0, v1, v2, v3, v4, v5, v6, -⟩ := (HC.out.below hbw).sevenC k (by rw [HN.out]; exact hk) hck
          have HCK := hide hck
          clear hck hbw
          by_cases he : (⟨r', m', y', d', ⟨f', g', b'⟩⟩ : Cel) = ⟨r, m, y, d, ⟨f, g, b⟩⟩
          · have hqq : eqC r' m' y' (d' : Int) (f' : Int) (g' : Int) (b' : Int) r m y (d : Int) (f : Int) (g : Int) (b : Int) = true := by rw [eqC_cel]; exact decide_eq_true he
            have HE := hide he
            clear he
            go_wp2
            go_quiet (fail)
            go_wp2
            go_roundw
            case rel => exact ⟨k + 1, by omega, by omega, by go_num, (fun p h1 h2 => by
              rcases Nat.lt_or_eq_of_le (Nat.lt_succ_iff.1 h2) with z | z
              · exact HQ.out p h1 z
              · rw [z, HCK.out, HE.out, HCI.out]), HBI.out.drewN _⟩
            case measure => simp [intOf]; omega
          · have hqq : eqC r' m' y' (d' : Int) (f' : Int) (g' : Int) (b' : Int) r m y (d : Int) (f : Int) (g : Int) (b : Int) = false := by rw [eqC_cel]; exact decide_eq_false he
            have hki : i < k := by
              rcases Nat.lt_or_eq_of_le hik with z | z
              · exact z
              · subst z
                have := HCK.out
                rw [HCI.out] at this
                exact absurd this.symm he
            have HRN := hide (runs_drop cs i k hki (by rw [HN.out]; omega) HQ.out (.inr (by rw [HCK.out, HCI.out]; exact he)))
            clear he
            go_wp2
            go_quiet (fail)
            obtain ⟨wx, hwx⟩ : ∃ wx, wr.drewN nq = wx := ⟨_, rfl⟩
            rw [hwx]
            have hbx : Below wo.heap.size wo wx := by rw [← hwx]; exact HBI.out.drewN _
            have HVX := hide (HV.out.later hbx)
            have hbw := HVX.out.bel
            obtain ⟨u0', u1', u2', u3', u4', u5', u6', l1'⟩ := (HC.out.below hbw).sevenC i (by rw [HN.out]; exact hlt) HCI.out
            obtain ⟨hp, hf⟩ := right_facts HRC.out
            obtain ⟨k0, k1⟩ := numN_bd (p := ⟨f, g, b⟩) hp
            obtain ⟨NN, hNN⟩ : ∃ NN : Nat, numN ⟨f, g, b⟩ = (NN : Int) := ⟨(numN ⟨f, g, b⟩).toNat, by omega⟩
            have HNN := hide hNN
            have hNb : NN ≤ 16927 := by omega
            rw [HCI.out] at HRN
            clear hwx hbx hbw hNN k0 k1 hp
            obtain ⟨W8, hW8⟩ : ∃ W8, wx.alloc (.cells #[.int .i64 r, .int .i64 m, .int .i64 y, .int .u8 (d : Int), .int .u8 (f : Int), .int .u8 (g : Int), .int .u8 (b : Int)] 66) = W8 := ⟨_, rfl⟩
            have hb8 : Below wx.heap.size wx W8 := by rw [← hW8]; exact (Below.refl _ _).alloc (Nat.le_refl _) _
            have HD8 : Hid (Whole W8 wx.heap.size 66 [.int .i64 r, .int .i64 m, .int .i64 y, .int .u8 (d : Int), .int .u8 (f : Int), .int .u8 (g : Int), .int .u8 (b : Int)]) := by unfold Hid; rw [← hW8]; exact Whole.new wx 66 [.int .i64 r, .int .i64 m, .int .i64 y, .int .u8 (d : Int), .int .u8 (f : Int), .int .u8 (g : Int), .int .u8 (b : Int)]
            have HV8 := hide (HVX.out.later hb8)
            have HW8 := hide hW8
            have hbl : (enc (countR cs) ++ runBytes pre).length ≤ 50000 := by
              have h1 := (enc_len (countR cs)).2
              have h2 := runBytes_len pre
              have h3 : pre.length ≤ 512 := by
                have h4 := congrArg List.length HP.out
                rw [List.length_append] at h4
                have h5 := runs_le cs
                have h6 := HN.out
                omega
              rw [List.length_append]
              omega
            obtain ⟨KK, hKK⟩ : ∃ KK, k - i = KK := ⟨_, rfl⟩
            rw [hKK] at HRN
            have hki2 : (k : Int) - (i : Int) = (KK : Int) := by omega
            have hKb : KK ≤ 512 := by omega
            have HKK := hide hKK
            clear hb8 hW8 hKK
            obtain ⟨c0, c1, c2, c3, c4, c5, c6, -⟩ := cells7 HD8.out
            have l8 := HD8.out.lt
            go_wp2
            rw [HW8.out]
            refine wp_region_chainL (fun w' => Below W8.heap.size W8 w') 12 [(0, 0), (0, 1), (0, 2), (0, 4), (0, 7), (0, 3), (0, 5), (0, 6), (1, 8), (1, 9), (1, 10), (1, 11), (3, 12)] (by kernel_rfl) (by kernel_rfl) (by kernel_rfl) (fun _ _ _ _ _ h => h) ?_ ?_
            · exact (Below.refl _ _).drewN 1
            refine chainL_take (v := ?_) (by simp only [List.getElem?_toArray, List.getElem?_cons_zero]; rfl) (by rfl) (fun w hS => ?_) ?_
            rotate_left
            · go_simp <;> with_reducible rfl
            simp only [Act.put, List.setIfInBounds_toArray, List.set_cons_zero, List.set_cons_succ]
            refine chainL_take (v := ?_) (by simp only [List.getElem?_toArray, List.getElem?_cons_zero, List.getElem?_cons_succ]; rfl) (by rfl) (fun w hS => ?_) ?_
            rotate_left
            · go_simp <;> with_reducible rfl
            simp only [Act.put, List.setIfInBounds_toArray, List.set_cons_zero, List.set_cons_succ]
            refine chainL_take (v := ?_) (by simp only [List.getElem?_toArray, List.getElem?_cons_zero, List.getElem?_cons_succ]; rfl) (by rfl) (fun w hS => ?_) ?_
            rotate_left
            · go_simp <;> with_reducible rfl
            simp only [Act.put, List.setIfInBounds_toArray, List.set_cons_zero, List.set_cons_succ]
            refine chainL_take (v := ?_) (by simp only [List.getElem?_toArray, List.getElem?_cons_zero, List.getElem?_cons_succ]; rfl) (by rfl) (fun w hS => ?_) ?_
            rotate_left
            · go_simp <;> with_reducible rfl
            simp only [Act.put, List.setIfInBounds_toArray, List.set_cons_zero, List.set_cons_succ]
            refine chainL_take (v := ?_) (by simp only [List.getElem?_toArray, List.getElem?_cons_zero, List.getElem?_cons_succ]; rfl) (by rfl) (fun w hS => ?_) ?_
            rotate_left
            · go_simp <;> with_reducible rfl
            simp only [Act.put, List.setIfInBounds_toArray, List.set_cons_zero, List.set_cons_succ]
            refine chainL_take (v := ?_) (by simp only [List.getElem?_toArray, List.getElem?_cons_zero, List.getElem?_cons_succ]; rfl) (by rfl) (fun w hS => ?_) ?_
            rotate_left
            · go_simp <;> with_reducible rfl
            simp only [Act.put, List.setIfInBounds_toArray, List.set_cons_zero, List.set_cons_succ]
            refine chainL_take (v := ?_) (by simp only [List.getElem?_toArray, List.getElem?_cons_zero, List.getElem?_cons_succ]; rfl) (by rfl) (fun w hS => ?_) ?_
            rotate_left
            · obtain ⟨c0, c1, c2, c3, c4, c5, c6, -⟩ := cells7 (HD8.out.later hS); go_simp <;> with_reducible rfl
            simp only [Act.put, List.setIfInBounds_toArray, List.set_cons_zero, List.set_cons_succ]
            refine chainL_take (v := ?_) (by simp only [List.getElem?_toArray, List.getElem?_cons_zero, List.getElem?_cons_succ]; rfl) (by rfl) (fun w hS => ?_) ?_
            rotate_left
            · go_simp <;> with_reducible rfl
            simp only [Act.put, List.setIfInBounds_toArray, List.set_cons_zero, List.set_cons_succ]
            refine chainL_alone (by simp only [List.getElem?_toArray, List.getElem?_cons_zero, List.getElem?_cons_succ]; rfl) ?_
            intro K hK
            go_wp2
            refine hK.out _ _ ((Below.refl _ _).drewN 1) ?_
            clear hK K
            refine chainL_alone (by simp only [List.getElem?_toArray, List.getElem?_cons_zero, List.getElem?_cons_succ]; rfl) ?_
            intro K hK
            go_wp2_with fail
            refine (rnumber_any f g b _).mono ?_
            rintro e w9 ⟨rfl, hb9⟩
            rw [HNN.out]
            have B9 : Below W8.heap.size W8 w9 := ((Below.refl _ _).drewN 1).trans hb9
            have HB9 := hide B9
            clear hb9
            go_wp2
            refine hK.out _ _ (HB9.out) ?_
            clear hK K
            refine chainL_alone (by simp only [List.getElem?_toArray, List.getElem?_cons_zero, List.getElem?_cons_succ]; rfl) ?_
            intro K hK
            go_wp2
            refine hK.out _ _ (HB9.out) ?_
            clear hK K
            refine chainL_alone (by simp only [List.getElem?_toArray, List.getElem?_cons_zero, List.getElem?_cons_succ]; rfl) ?_
            intro K hK
            go_wp2
            refine hK.out _ _ (HB9.out.alloc HB9.out.size _) ?_
            clear hK K
            refine chainL_late (by simp only [List.getElem?_toArray, List.getElem?_cons_zero, List.getElem?_cons_succ]; rfl) ?_
            intro K hK
            go_wp2
            refine hK.out _ _ ?_
            clear hK K
            refine chainL_nil ?_
            have HL3 := hide (lit3 w9 KK d NN)
            obtain ⟨w10, hw10⟩ : ∃ w10, w9.alloc (.cells #[.int .u64 (KK : Int), .int .u64 (d : Int), .int .u64 (NN : Int)] 42) = w10 := ⟨_, rfl⟩
            rw [hw10] at HL3 ⊢
            have HV10 := hide ((HV8.out.later HB9.out).later HL3.out.bel)
            have HD10 := hide ((HD8.out.later HB9.out).later HL3.out.bel)
            have HG9 : Hid (w.heap.size ≤ w9.heap.size) := Nat.le_trans (Nat.le_trans HV8.out.le HB9.out.size) (Nat.le_refl _)
            clear hw10 HD8 HV8 c0 c1 c2 c3 c4 c5 c6 l8
            by_cases hd0 : d = 0
            · have hnw : Hid (numsR KK ⟨r, m, y, d, ⟨f, g, b⟩⟩ = [(KK : Int), (d : Int), (NN : Int)]) := by
                unfold Hid numsR cellNums
                simp only
                rw [if_pos hd0, HNN.out]
                rfl
              obtain ⟨c0, c1, c2, c3, c4, c5, c6, -⟩ := cells7 HD10.out
              have lq := HD10.out.lt
              have hdz : ¬ ((0 : Int) < (d : Int)) := by omega
              have hdz2 : decide ((0 : Int) < (d : Int)) = false := by simp; omega
              have hdn : d < 256 := by omega
              have HR : Hid (Ints .u64 w10 (some ⟨w9.heap.size, 0, none⟩) (numsR KK ⟨r, m, y, d, ⟨f, g, b⟩⟩)) := by
                obtain ⟨A5, c5, e5, i5, -⟩ := HL3.out.form
                cases e5
                unfold Hid
                rw [hnw.out]
                exact i5
              have HRL : Hid ((numsR KK ⟨r, m, y, d, ⟨f, g, b⟩⟩).length = 3) := by unfold Hid; rw [hnw.out]; rfl
              have HRB : Hid (∀ z ∈ numsR KK ⟨r, m, y, d, ⟨f, g, b⟩⟩, 0 ≤ z ∧ z < 18446744073709551616) := by unfold Hid; rw [hnw.out]; intro z hz; simp at hz; omega
              clear hd0 hf
              go_wp2_with fail
              refine (nu_all_any _ _ _ _ w10 HR.out HRL.out (by omega) HRB.out).mono ?_
              rintro e w20 ⟨v20, rfl, hv20⟩
              obtain ⟨A20, c20, rfl, i20, n20, z20, -⟩ := hv20.form2
              have HV20 := hide (HV10.out.later hv20.bel)
              have HI20 := hide i20
              have HZ20 := hide z20
              have hel := encAll_len (numsR KK ⟨r, m, y, d, ⟨f, g, b⟩⟩)
              have hnl := numsR_len KK ⟨r, m, y, d, ⟨f, g, b⟩⟩
              obtain ⟨L20, hL20⟩ : ∃ L20, (encAll (numsR KK ⟨r, m, y, d, ⟨f, g, b⟩⟩)).length = L20 := ⟨_, rfl⟩
              rw [hL20] at hel n20 ⊢
              have HL20 := hide hL20
              clear hv20 i20 z20 hL20
              go_wp2_with (at_builtin; refine stopw ?_)
              unfold Hid
              refine wpList_cat elemBytes rfl _ _ rfl rfl rfl HV20.out HI20.out HL20.out HZ20.out (by omega) (by omega) ?_
              intro v21 w21 hown
              have e21 : runBytes (pre ++ [(KK, (⟨r, m, y, d, ⟨f, g, b⟩⟩ : Cel))]) = runBytes pre ++ encAll (numsR KK ⟨r, m, y, d, ⟨f, g, b⟩⟩) := by rw [runBytes_append]; simp [runBytes]
              have HF21 : Hid (Own 5 .u8 w.heap.size w w21 v21 (enc (countR cs) ++ runBytes (pre ++ [(KK, (⟨r, m, y, d, ⟨f, g, b⟩⟩ : Cel))]))) := by unfold Hid; rw [e21, ← List.append_assoc]; exact hown
              clear hown e21
              go_wp2
              go_roundw
              case rel => exact ⟨k, pre ++ [(KK, (⟨r, m, y, d, ⟨f, g, b⟩⟩ : Cel))], by omega, rfl, by unfold Hid; rw [List.append_assoc, List.singleton_append, ← HRN.out]; exact HP.out, HF21⟩
              case measure => simp [intOf]; omega
            · obtain ⟨hw', hr, h0, hm, hn⟩ : (d = 1 ∨ d = 2) ∧ (0 ≤ r ∧ r ≤ 1114111) ∧ (m = 0 → y = 0) ∧ (0 ≤ m ∧ m ≤ 1114111) ∧ (0 ≤ y ∧ y ≤ 1114111) := by
                rcases hf with ⟨q, -⟩ | q
                · exact absurd q hd0
                · exact q
              have HRM := hide (runes_marks r m y d f g b hw')
              obtain ⟨hml, hmb⟩ := marks_bd r m y d f g b hm hn
              obtain ⟨ms, hms⟩ : ∃ ms, marksOf ⟨r, m, y, d, ⟨f, g, b⟩⟩ = ms := ⟨_, rfl⟩
              obtain ⟨R0, hR0⟩ : ∃ R0 : Nat, r = (R0 : Int) := ⟨r.toNat, by omega⟩
              have HNUM := hide (nums_at KK d NN R0 r m y f g b ms hd0 HNN.out hR0 hms)
              rw [hms] at HRM hml hmb
              have HMB := hide hmb
              obtain ⟨M, hM⟩ : ∃ M, ms.length = M := ⟨_, rfl⟩
              rw [hM] at hml HNUM
              have HM := hide hM
              have HR0 := hide hR0
              have hdz : (0 : Int) < (d : Int) := by omega
              obtain ⟨hr1, hr2⟩ := hr
              have hR0b : R0 ≤ 1114111 := by omega
              have hdn : d ≤ 2 := by omega
              obtain ⟨c0, c1, c2, c3, c4, c5, c6, -⟩ := cells7 HD10.out
              have lq := HD10.out.lt
              clear hd0 hf hms hM hmb hR0 hm hn h0 hw'
              go_wp2_with fail
              refine (rrunes_any r m y d f g b w10).mono ?_
              rw [HRM.out]
              rintro e w11 ⟨v11, rfl, hv11⟩
              obtain ⟨A11, c11, rfl, t11, n11, z11, -⟩ := hv11.tk
              have HV11 := hide (HV10.out.later hv11.bel)
              have HD11 := hide (HD10.out.later hv11.bel)
              have HN11 := hide (HL3.out.later hv11.bel)
              have HT11 := hide t11
              rw [List.length_cons, HM.out] at n11 ⊢
              clear hv11 t11 z11 c0 c1 c2 c3 c4 c5 c6 lq
              obtain ⟨c0, c1, c2, c3, c4, c5, c6, -⟩ := cells7 HD11.out
              have lq := HD11.out.lt
              have HI12 : Hid (Ints .u64 (w11.alloc (.cells #[.int .u64 r, .int .u64 (M : Int)] 42)) (some ⟨w11.heap.size, 0, none⟩) [r, (M : Int)]) := Ints.new .u64 w11 42 [r, (M : Int)]
              go_wp2_with (at_builtin; refine stopw ?_)
              unfold Hid
              refine wpList_catG elemU64 rfl _ _ rfl rfl rfl (HN11.out.later ((Below.refl _ _).alloc (Nat.le_refl _) _)) HI12.out rfl (by intro q; cases q) (by simp) (by omega) ?_
              intro v12 w12 hown12 hg12
              have hb12 : Below w11.heap.size w11 (w11.alloc (.cells #[.int .u64 r, .int .u64 (M : Int)] 42)) := (Below.refl _ _).alloc (Nat.le_refl _) _
              have HV12 := hide (own_other (HV11.out.later hb12) (HN11.out.later hb12) hg12 HG9.out (by decide))
              have HT12 := hide ((HT11.out.below hb12).keep (fun b cur hh => row_other (HN11.out.later hb12) hg12 b cur 3 (by decide) hh))
              have HN12 := hide hown12
              clear hown12 hg12 hb12 c0 c1 c2 c3 c4 c5 c6 lq
              go_wp2
              go_loopw [7, 9] (fun nv jv wj => ∃ t : Nat, t ≤ M ∧ jv = .int .i64 ((t : Int) + 1) ∧ Hid (Own 42 .u64 w9.heap.size w9 wj nv ([(KK : Int), (d : Int), (NN : Int)] ++ [r, (M : Int)] ++ ms.take t)) ∧ Hid (Own 5 .u8 w.heap.size w wj u3 (enc (countR cs) ++ runBytes pre)) ∧ Hid (Tk 3 .i64 wj A11 (r :: ms))) (fun _ jv _ => M + 1 - (intOf jv).toNat)
              case atStart => exact ⟨0, Nat.zero_le _, rfl, by unfold Hid; rw [List.take_zero, List.append_nil]; exact HN12.out, HV12, HT12⟩
              case round =>
                obtain ⟨t, ht, rfl, HNJ, HVJ, HTJ⟩ := hrel
                by_cases htl : t < M
                · obtain ⟨bj, oj, rfl, hcj, lj⟩ := HTJ.out.ints.at (i := t + 1) (by rw [List.length_cons, HM.out]; omega)
                  rw [List.getD_cons_succ] at hcj
                  obtain ⟨x, hx⟩ : ∃ x, ms.getD t 0 = x := ⟨_, rfl⟩
                  have hxb := HMB.out x (by rw [← hx]; exact getD_mem ms t (by rw [HM.out]; exact htl))
                  have HTS := hide (take_snoc ms t x (by rw [HM.out]; exact htl) hx)
                  rw [hx] at hcj
                  obtain ⟨hx1, hx2⟩ := hxb
                  have e1 : ((t : Int) + 1).toNat = t + 1 := by omega
                  have e2 : (t : Int) + 1 < (M : Int) + 1 := by omega
                  have e3 : (0 : Int) ≤ (t : Int) + 1 := by omega
                  clear hx
                  have HIJ : Hid (Ints .u64 (wr.alloc (.cells #[.int .u64 x] 42)) (some ⟨wr.heap.size, 0, none⟩) [x]) := Ints.new .u64 wr 42 [x]
                  obtain ⟨wj, hwj⟩ : ∃ wj, wr = wj := ⟨_, rfl⟩
                  have hbj : Below wr.heap.size wr (wr.alloc (.cells #[.int .u64 x] 42)) := (Below.refl _ _).alloc (Nat.le_refl _) _
                  have HBJ := hide hbj
                  clear hwj hbj
                  go_wp2_with (at_builtin; refine stopw ?_)
                  unfold Hid
                  refine wpList_catG elemU64 rfl _ _ rfl rfl rfl (HNJ.out.later HBJ.out) HIJ.out rfl (by intro q; cases q) (by simp only [List.length_append, List.length_take, List.length_cons, List.length_nil]; omega) (by omega) ?_
                  intro v13 w13 hown13 hg13
                  have HV13 := hide (own_other (HVJ.out.later HBJ.out) (HNJ.out.later HBJ.out) hg13 HG9.out (by decide))
                  have HT13 := hide ((HTJ.out.below HBJ.out).keep (fun b cur hh => row_other (HNJ.out.later HBJ.out) hg13 b cur 3 (by decide) hh))
                  rw [List.append_assoc, ← HTS.out] at hown13
                  have HN13 := hide hown13
                  clear hown13 hg13
                  go_wp2
                  go_roundw
                  case rel => exact ⟨t + 1, by omega, by go_num, HN13, HV13, HT13⟩
                  case measure => simp [intOf]; omega
                · have htm : t = M := by omega
                  have hfull : [(KK : Int), (d : Int), (NN : Int)] ++ [r, (M : Int)] ++ ms.take t = numsR KK ⟨r, m, y, d, ⟨f, g, b⟩⟩ := by
                    rw [HNUM.out, HR0.out, List.take_of_length_le (by rw [HM.out]; omega)]
                  rw [hfull] at HNJ
                  have HRL : Hid ((numsR KK ⟨r, m, y, d, ⟨f, g, b⟩⟩).length = M + 5) := by unfold Hid; rw [HNUM.out]; simp [HM.out]
                  have HRB : Hid (∀ z ∈ numsR KK ⟨r, m, y, d, ⟨f, g, b⟩⟩, 0 ≤ z ∧ z < 18446744073709551616) := by
                    unfold Hid
                    rw [HNUM.out]
                    intro z hz
                    rcases List.mem_append.1 hz with hz | hz
                    · simp at hz; omega
                    · have := HMB.out z hz; omega
                  obtain ⟨AJ, cJ, rfl, iJ, -, -⟩ := HNJ.out.form
                  rw [HRL.out]
                  have HIJ := hide iJ
                  have HV10 := hide HVJ.out
                  obtain ⟨w10, hw10⟩ : ∃ w5, w5 = wr := ⟨_, rfl⟩
                  subst hw10
                  clear hfull iJ htm HVJ
                  go_wp2_with fail
                  refine (nu_all_any _ _ _ _ _ HIJ.out HRL.out (by omega) HRB.out).mono ?_
                  rintro e w20 ⟨v20, rfl, hv20⟩
                  obtain ⟨A20, c20, rfl, i20, n20, z20, -⟩ := hv20.form2
                  have HV20 := hide (HV10.out.later hv20.bel)
                  have HI20 := hide i20
                  have HZ20 := hide z20
                  have hel := encAll_len (numsR KK ⟨r, m, y, d, ⟨f, g, b⟩⟩)
                  have hnl := numsR_len KK ⟨r, m, y, d, ⟨f, g, b⟩⟩
                  obtain ⟨L20, hL20⟩ : ∃ L20, (encAll (numsR KK ⟨r, m, y, d, ⟨f, g, b⟩⟩)).length = L20 := ⟨_, rfl⟩
                  rw [hL20] at hel n20 ⊢
                  have HL20 := hide hL20
                  clear hv20 i20 z20 hL20
                  go_wp2_with (at_builtin; refine stopw ?_)
                  unfold Hid
                  refine wpList_cat elemBytes rfl _ _ rfl rfl rfl HV20.out HI20.out HL20.out HZ20.out (by omega) (by omega) ?_
                  intro v21 w21 hown
                  have e21 : runBytes (pre ++ [(KK, (⟨r, m, y, d, ⟨f, g, b⟩⟩ : Cel))]) = runBytes pre ++ encAll (numsR KK ⟨r, m, y, d, ⟨f, g, b⟩⟩) := by rw [runBytes_append]; simp [runBytes]
                  have HF21 : Hid (Own 5 .u8 w.heap.size w w21 v21 (enc (countR cs) ++ runBytes (pre ++ [(KK, (⟨r, m, y, d, ⟨f, g, b⟩⟩ : Cel))]))) := by unfold Hid; rw [e21, ← List.append_assoc]; exact hown
                  clear hown e21
                  go_wp2
                  go_roundw
                  case rel => exact ⟨k, pre ++ [(KK, (⟨r, m, y, d, ⟨f, g, b⟩⟩ : Cel))], by omega, rfl, by unfold Hid; rw [List.append_assoc, List.singleton_append, ← HRN.out]; exact HP.out, HF21⟩
                  case measure => simp [intOf]; omega
        · obtain rfl : k = n := by omega
          have HRN := hide (runs_drop cs i k hlt (by rw [HN.out]; exact Nat.le_refl _) HQ.out (.inl HN.out.symm))
          have hki : i < k := hlt
          clear hbw
          go_wp2
          go_quiet (fail)
          obtain ⟨wx, hwx⟩ : ∃ wx, wr.drewN nq = wx := ⟨_, rfl⟩
          rw [hwx]
          have hbx : Below wo.heap.size wo wx := by rw [← hwx]; exact HBI.out.drewN _
          have HVX := hide (HV.out.later hbx)
          have hbw := HVX.out.bel
          obtain ⟨u0', u1', u2', u3', u4', u5', u6', l1'⟩ := (HC.out.below hbw).sevenC i (by rw [HN.out]; exact hlt) HCI.out
          obtain ⟨hp, hf⟩ := right_facts HRC.out
          obtain ⟨k0, k1⟩ := numN_bd (p := ⟨f, g, b⟩) hp
          obtain ⟨NN, hNN⟩ : ∃ NN : Nat, numN ⟨f, g, b⟩ = (NN : Int) := ⟨(numN ⟨f, g, b⟩).toNat, by omega⟩
          have HNN := hide hNN
          have hNb : NN ≤ 16927 := by omega
          rw [HCI.out] at HRN
          clear hwx hbx hbw hNN k0 k1 hp
          obtain ⟨W8, hW8⟩ : ∃ W8, wx.alloc (.cells #[.int .i64 r, .int .i64 m, .int .i64 y, .int .u8 (d : Int), .int .u8 (f : Int), .int .u8 (g : Int), .int .u8 (b : Int)] 66) = W8 := ⟨_, rfl⟩
          have hb8 : Below wx.heap.size wx W8 := by rw [← hW8]; exact (Below.refl _ _).alloc (Nat.le_refl _) _
          have HD8 : Hid (Whole W8 wx.heap.size 66 [.int .i64 r, .int .i64 m, .int .i64 y, .int .u8 (d : Int), .int .u8 (f : Int), .int .u8 (g : Int), .int .u8 (b : Int)]) := by unfold Hid; rw [← hW8]; exact Whole.new wx 66 [.int .i64 r, .int .i64 m, .int .i64 y, .int .u8 (d : Int), .int .u8 (f : Int), .int .u8 (g : Int), .int .u8 (b : Int)]
          have HV8 := hide (HVX.out.later hb8)
          have HW8 := hide hW8
          have hbl : (enc (countR cs) ++ runBytes pre).length ≤ 50000 := by
            have h1 := (enc_len (countR cs)).2
            have h2 := runBytes_len pre
            have h3 : pre.length ≤ 512 := by
              have h4 := congrArg List.length HP.out
              rw [List.length_append] at h4
              have h5 := runs_le cs
              have h6 := HN.out
              omega
            rw [List.length_append]
            omega
          obtain ⟨KK, hKK⟩ : ∃ KK, k - i = KK := ⟨_, rfl⟩
          rw [hKK] at HRN
          have hki2 : (k : Int) - (i : Int) = (KK : Int) := by omega
          have hKb : KK ≤ 512 := by omega
          have HKK := hide hKK
          clear hb8 hW8 hKK
          obtain ⟨c0, c1, c2, c3, c4, c5, c6, -⟩ := cells7 HD8.out
          have l8 := HD8.out.lt
          go_wp2
          rw [HW8.out]
          refine wp_region_chainL (fun w' => Below W8.heap.size W8 w') 12 [(0, 0), (0, 1), (0, 2), (0, 4), (0, 7), (0, 3), (0, 5), (0, 6), (1, 8), (1, 9), (1, 10), (1, 11), (3, 12)] (by kernel_rfl) (by kernel_rfl) (by kernel_rfl) (fun _ _ _ _ _ h => h) ?_ ?_
          · exact (Below.refl _ _).drewN 1
          refine chainL_take (v := ?_) (by simp only [List.getElem?_toArray, List.getElem?_cons_zero]; rfl) (by rfl) (fun w hS => ?_) ?_
          rotate_left
          · go_simp <;> with_reducible rfl
          simp only [Act.put, List.setIfInBounds_toArray, List.set_cons_zero, List.set_cons_succ]
          refine chainL_take (v := ?_) (by simp only [List.getElem?_toArray, List.getElem?_cons_zero, List.getElem?_cons_succ]; rfl) (by rfl) (fun w hS => ?_) ?_
          rotate_left
          · go_simp <;> with_reducible rfl
          simp only [Act.put, List.setIfInBounds_toArray, List.set_cons_zero, List.set_cons_succ]
          refine chainL_take (v := ?_) (by simp only [List.getElem?_toArray, List.getElem?_cons_zero, List.getElem?_cons_succ]; rfl) (by rfl) (fun w hS => ?_) ?_
          rotate_left
          · go_simp <;> with_reducible rfl
          simp only [Act.put, List.setIfInBounds_toArray, List.set_cons_zero, List.set_cons_succ]
          refine chainL_take (v := ?_) (by simp only [List.getElem?_toArray, List.getElem?_cons_zero, List.getElem?_cons_succ]; rfl) (by rfl) (fun w hS => ?_) ?_
          rotate_left
          · go_simp <;> with_reducible rfl
          simp only [Act.put, List.setIfInBounds_toArray, List.set_cons_zero, List.set_cons_succ]
          refine chainL_take (v := ?_) (by simp only [List.getElem?_toArray, List.getElem?_cons_zero, List.getElem?_cons_succ]; rfl) (by rfl) (fun w hS => ?_) ?_
          rotate_left
          · go_simp <;> with_reducible rfl
          simp only [Act.put, List.setIfInBounds_toArray, List.set_cons_zero, List.set_cons_succ]
          refine chainL_take (v := ?_) (by simp only [List.getElem?_toArray, List.getElem?_cons_zero, List.getElem?_cons_succ]; rfl) (by rfl) (fun w hS => ?_) ?_
          rotate_left
          · go_simp <;> with_reducible rfl
          simp only [Act.put, List.setIfInBounds_toArray, List.set_cons_zero, List.set_cons_succ]
          refine chainL_take (v := ?_) (by simp only [List.getElem?_toArray, List.getElem?_cons_zero, List.getElem?_cons_succ]; rfl) (by rfl) (fun w hS => ?_) ?_
          rotate_left
          · obtain ⟨c0, c1, c2, c3, c4, c5, c6, -⟩ := cells7 (HD8.out.later hS); go_simp <;> with_reducible rfl
          simp only [Act.put, List.setIfInBounds_toArray, List.set_cons_zero, List.set_cons_succ]
          refine chainL_take (v := ?_) (by simp only [List.getElem?_toArray, List.getElem?_cons_zero, List.getElem?_cons_succ]; rfl) (by rfl) (fun w hS => ?_) ?_
          rotate_left
          · go_simp <;> with_reducible rfl
          simp only [Act.put, List.setIfInBounds_toArray, List.set_cons_zero, List.set_cons_succ]
          refine chainL_alone (by simp only [List.getElem?_toArray, List.getElem?_cons_zero, List.getElem?_cons_succ]; rfl) ?_
          intro K hK
          go_wp2
          refine hK.out _ _ ((Below.refl _ _).drewN 1) ?_
          clear hK K
          refine chainL_alone (by simp only [List.getElem?_toArray, List.getElem?_cons_zero, List.getElem?_cons_succ]; rfl) ?_
          intro K hK
          go_wp2_with fail
          refine (rnumber_any f g b _).mono ?_
          rintro e w9 ⟨rfl, hb9⟩
          rw [HNN.out]
          have B9 : Below W8.heap.size W8 w9 := ((Below.refl _ _).drewN 1).trans hb9
          have HB9 := hide B9
          clear hb9
          go_wp2
          refine hK.out _ _ (HB9.out) ?_
          clear hK K
          refine chainL_alone (by simp only [List.getElem?_toArray, List.getElem?_cons_zero, List.getElem?_cons_succ]; rfl) ?_
          intro K hK
          go_wp2
          refine hK.out _ _ (HB9.out) ?_
          clear hK K
          refine chainL_alone (by simp only [List.getElem?_toArray, List.getElem?_cons_zero, List.getElem?_cons_succ]; rfl) ?_
          intro K hK
          go_wp2
          refine hK.out _ _ (HB9.out.alloc HB9.out.size _) ?_
          clear hK K
          refine chainL_late (by simp only [List.getElem?_toArray, List.getElem?_cons_zero, List.getElem?_cons_succ]; rfl) ?_
          intro K hK
          go_wp2
          refine hK.out _ _ ?_
          clear hK K
          refine chainL_nil ?_
          have HL3 := hide (lit3 w9 KK d NN)
          obtain ⟨w10, hw10⟩ : ∃ w10, w9.alloc (.cells #[.int .u64 (KK : Int), .int .u64 (d : Int), .int .u64 (NN : Int)] 42) = w10 := ⟨_, rfl⟩
          rw [hw10] at HL3 ⊢
          have HV10 := hide ((HV8.out.later HB9.out).later HL3.out.bel)
          have HD10 := hide ((HD8.out.later HB9.out).later HL3.out.bel)
          have HG9 : Hid (w.heap.size ≤ w9.heap.size) := Nat.le_trans (Nat.le_trans HV8.out.le HB9.out.size) (Nat.le_refl _)
          clear hw10 HD8 HV8 c0 c1 c2 c3 c4 c5 c6 l8
          by_cases hd0 : d = 0
          · have hnw : Hid (numsR KK ⟨r, m, y, d, ⟨f, g, b⟩⟩ = [(KK : Int), (d : Int), (NN : Int)]) := by
              unfold Hid numsR cellNums
              simp only
              rw [if_pos hd0, HNN.out]
              rfl
            obtain ⟨c0, c1, c2, c3, c4, c5, c6, -⟩ := cells7 HD10.out
            have lq := HD10.out.lt
            have hdz : ¬ ((0 : Int) < (d : Int)) := by omega
            have hdz2 : decide ((0 : Int) < (d : Int)) = false := by simp; omega
            have hdn : d < 256 := by omega
            have HR : Hid (Ints .u64 w10 (some ⟨w9.heap.size, 0, none⟩) (numsR KK ⟨r, m, y, d, ⟨f, g, b⟩⟩)) := by
              obtain ⟨A5, c5, e5, i5, -⟩ := HL3.out.form
              cases e5
              unfold Hid
              rw [hnw.out]
              exact i5
            have HRL : Hid ((numsR KK ⟨r, m, y, d, ⟨f, g, b⟩⟩).length = 3) := by unfold Hid; rw [hnw.out]; rfl
            have HRB : Hid (∀ z ∈ numsR KK ⟨r, m, y, d, ⟨f, g, b⟩⟩, 0 ≤ z ∧ z < 18446744073709551616) := by unfold Hid; rw [hnw.out]; intro z hz; simp at hz; omega
            clear hd0 hf
            go_wp2_with fail
            refine (nu_all_any _ _ _ _ w10 HR.out HRL.out (by omega) HRB.out).mono ?_
            rintro e w20 ⟨v20, rfl, hv20⟩
            obtain ⟨A20, c20, rfl, i20, n20, z20, -⟩ := hv20.form2
            have HV20 := hide (HV10.out.later hv20.bel)
            have HI20 := hide i20
            have HZ20 := hide z20
            have hel := encAll_len (numsR KK ⟨r, m, y, d, ⟨f, g, b⟩⟩)
            have hnl := numsR_len KK ⟨r, m, y, d, ⟨f, g, b⟩⟩
            obtain ⟨L20, hL20⟩ : ∃ L20, (encAll (numsR KK ⟨r, m, y, d, ⟨f, g, b⟩⟩)).length = L20 := ⟨_, rfl⟩
            rw [hL20] at hel n20 ⊢
            have HL20 := hide hL20
            clear hv20 i20 z20 hL20
            go_wp2_with (at_builtin; refine stopw ?_)
            unfold Hid
            refine wpList_cat elemBytes rfl _ _ rfl rfl rfl HV20.out HI20.out HL20.out HZ20.out (by omega) (by omega) ?_
            intro v21 w21 hown
            have e21 : runBytes (pre ++ [(KK, (⟨r, m, y, d, ⟨f, g, b⟩⟩ : Cel))]) = runBytes pre ++ encAll (numsR KK ⟨r, m, y, d, ⟨f, g, b⟩⟩) := by rw [runBytes_append]; simp [runBytes]
            have HF21 : Hid (Own 5 .u8 w.heap.size w w21 v21 (enc (countR cs) ++ runBytes (pre ++ [(KK, (⟨r, m, y, d, ⟨f, g, b⟩⟩ : Cel))]))) := by unfold Hid; rw [e21, ← List.append_assoc]; exact hown
            clear hown e21
            go_wp2
            go_roundw
            case rel => exact ⟨k, pre ++ [(KK, (⟨r, m, y, d, ⟨f, g, b⟩⟩ : Cel))], by omega, rfl, by unfold Hid; rw [List.append_assoc, List.singleton_append, ← HRN.out]; exact HP.out, HF21⟩
            case measure => simp [intOf]; omega
          · obtain ⟨hw', hr, h0, hm, hn⟩ : (d = 1 ∨ d = 2) ∧ (0 ≤ r ∧ r ≤ 1114111) ∧ (m = 0 → y = 0) ∧ (0 ≤ m ∧ m ≤ 1114111) ∧ (0 ≤ y ∧ y ≤ 1114111) := by
              rcases hf with ⟨q, -⟩ | q
              · exact absurd q hd0
              · exact q
            have HRM := hide (runes_marks r m y d f g b hw')
            obtain ⟨hml, hmb⟩ := marks_bd r m y d f g b hm hn
            obtain ⟨ms, hms⟩ : ∃ ms, marksOf ⟨r, m, y, d, ⟨f, g, b⟩⟩ = ms := ⟨_, rfl⟩
            obtain ⟨R0, hR0⟩ : ∃ R0 : Nat, r = (R0 : Int) := ⟨r.toNat, by omega⟩
            have HNUM := hide (nums_at KK d NN R0 r m y f g b ms hd0 HNN.out hR0 hms)
            rw [hms] at HRM hml hmb
            have HMB := hide hmb
            obtain ⟨M, hM⟩ : ∃ M, ms.length = M := ⟨_, rfl⟩
            rw [hM] at hml HNUM
            have HM := hide hM
            have HR0 := hide hR0
            have hdz : (0 : Int) < (d : Int) := by omega
            obtain ⟨hr1, hr2⟩ := hr
            have hR0b : R0 ≤ 1114111 := by omega
            have hdn : d ≤ 2 := by omega
            obtain ⟨c0, c1, c2, c3, c4, c5, c6, -⟩ := cells7 HD10.out
            have lq := HD10.out.lt
            clear hd0 hf hms hM hmb hR0 hm hn h0 hw'
            go_wp2_with fail
            refine (rrunes_any r m y d f g b w10).mono ?_
            rw [HRM.out]
            rintro e w11 ⟨v11, rfl, hv11⟩
            obtain ⟨A11, c11, rfl, t11, n11, z11, -⟩ := hv11.tk
            have HV11 := hide (HV10.out.later hv11.bel)
            have HD11 := hide (HD10.out.later hv11.bel)
            have HN11 := hide (HL3.out.later hv11.bel)
            have HT11 := hide t11
            rw [List.length_cons, HM.out] at n11 ⊢
            clear hv11 t11 z11 c0 c1 c2 c3 c4 c5 c6 lq
            obtain ⟨c0, c1, c2, c3, c4, c5, c6, -⟩ := cells7 HD11.out
            have lq := HD11.out.lt
            have HI12 : Hid (Ints .u64 (w11.alloc (.cells #[.int .u64 r, .int .u64 (M : Int)] 42)) (some ⟨w11.heap.size, 0, none⟩) [r, (M : Int)]) := Ints.new .u64 w11 42 [r, (M : Int)]
            go_wp2_with (at_builtin; refine stopw ?_)
            unfold Hid
            refine wpList_catG elemU64 rfl _ _ rfl rfl rfl (HN11.out.later ((Below.refl _ _).alloc (Nat.le_refl _) _)) HI12.out rfl (by intro q; cases q) (by simp) (by omega) ?_
            intro v12 w12 hown12 hg12
            have hb12 : Below w11.heap.size w11 (w11.alloc (.cells #[.int .u64 r, .int .u64 (M : Int)] 42)) := (Below.refl _ _).alloc (Nat.le_refl _) _
            have HV12 := hide (own_other (HV11.out.later hb12) (HN11.out.later hb12) hg12 HG9.out (by decide))
            have HT12 := hide ((HT11.out.below hb12).keep (fun b cur hh => row_other (HN11.out.later hb12) hg12 b cur 3 (by decide) hh))
            have HN12 := hide hown12
            clear hown12 hg12 hb12 c0 c1 c2 c3 c4 c5 c6 lq
            go_wp2
            go_loopw [7, 9] (fun nv jv wj => ∃ t : Nat, t ≤ M ∧ jv = .int .i64 ((t : Int) + 1) ∧ Hid (Own 42 .u64 w9.heap.size w9 wj nv ([(KK : Int), (d : Int), (NN : Int)] ++ [r, (M : Int)] ++ ms.take t)) ∧ Hid (Own 5 .u8 w.heap.size w wj u3 (enc (countR cs) ++ runBytes pre)) ∧ Hid (Tk 3 .i64 wj A11 (r :: ms))) (fun _ jv _ => M + 1 - (intOf jv).toNat)
            case atStart => exact ⟨0, Nat.zero_le _, rfl, by unfold Hid; rw [List.take_zero, List.append_nil]; exact HN12.out, HV12, HT12⟩
            case round =>
              obtain ⟨t, ht, rfl, HNJ, HVJ, HTJ⟩ := hrel
              by_cases htl : t < M
              · obtain ⟨bj, oj, rfl, hcj, lj⟩ := HTJ.out.ints.at (i := t + 1) (by rw [List.length_cons, HM.out]; omega)
                rw [List.getD_cons_succ] at hcj
                obtain ⟨x, hx⟩ : ∃ x, ms.getD t 0 = x := ⟨_, rfl⟩
                have hxb := HMB.out x (by rw [← hx]; exact getD_mem ms t (by rw [HM.out]; exact htl))
                have HTS := hide (take_snoc ms t x (by rw [HM.out]; exact htl) hx)
                rw [hx] at hcj
                obtain ⟨hx1, hx2⟩ := hxb
                have e1 : ((t : Int) + 1).toNat = t + 1 := by omega
                have e2 : (t : Int) + 1 < (M : Int) + 1 := by omega
                have e3 : (0 : Int) ≤ (t : Int) + 1 := by omega
                clear hx
                have HIJ : Hid (Ints .u64 (wr.alloc (.cells #[.int .u64 x] 42)) (some ⟨wr.heap.size, 0, none⟩) [x]) := Ints.new .u64 wr 42 [x]
                obtain ⟨wj, hwj⟩ : ∃ wj, wr = wj := ⟨_, rfl⟩
                have hbj : Below wr.heap.size wr (wr.alloc (.cells #[.int .u64 x] 42)) := (Below.refl _ _).alloc (Nat.le_refl _) _
                have HBJ := hide hbj
                clear hwj hbj
                go_wp2_with (at_builtin; refine stopw ?_)
                unfold Hid
                refine wpList_catG elemU64 rfl _ _ rfl rfl rfl (HNJ.out.later HBJ.out) HIJ.out rfl (by intro q; cases q) (by simp only [List.length_append, List.length_take, List.length_cons, List.length_nil]; omega) (by omega) ?_
                intro v13 w13 hown13 hg13
                have HV13 := hide (own_other (HVJ.out.later HBJ.out) (HNJ.out.later HBJ.out) hg13 HG9.out (by decide))
                have HT13 := hide ((HTJ.out.below HBJ.out).keep (fun b cur hh => row_other (HNJ.out.later HBJ.out) hg13 b cur 3 (by decide) hh))
                rw [List.append_assoc, ← HTS.out] at hown13
                have HN13 := hide hown13
                clear hown13 hg13
                go_wp2
                go_roundw
                case rel => exact ⟨t + 1, by omega, by go_num, HN13, HV13, HT13⟩
                case measure => simp [intOf]; omega
              · have htm : t = M := by omega
                have hfull : [(KK : Int), (d : Int), (NN : Int)] ++ [r, (M : Int)] ++ ms.take t = numsR KK ⟨r, m, y, d, ⟨f, g, b⟩⟩ := by
                  rw [HNUM.out, HR0.out, List.take_of_length_le (by rw [HM.out]; omega)]
                rw [hfull] at HNJ
                have HRL : Hid ((numsR KK ⟨r, m, y, d, ⟨f, g, b⟩⟩).length = M + 5) := by unfold Hid; rw [HNUM.out]; simp [HM.out]
                have HRB : Hid (∀ z ∈ numsR KK ⟨r, m, y, d, ⟨f, g, b⟩⟩, 0 ≤ z ∧ z < 18446744073709551616) := by
                  unfold Hid
                  rw [HNUM.out]
                  intro z hz
                  rcases List.mem_append.1 hz with hz | hz
                  · simp at hz; omega
                  · have := HMB.out z hz; omega
                obtain ⟨AJ, cJ, rfl, iJ, -, -⟩ := HNJ.out.form
                rw [HRL.out]
                have HIJ := hide iJ
                have HV10 := hide HVJ.out
                obtain ⟨w10, hw10⟩ : ∃ w5, w5 = wr := ⟨_, rfl⟩
                subst hw10
                clear hfull iJ htm HVJ
                go_wp2_with fail
                refine (nu_all_any _ _ _ _ _ HIJ.out HRL.out (by omega) HRB.out).mono ?_
                rintro e w20 ⟨v20, rfl, hv20⟩
                obtain ⟨A20, c20, rfl, i20, n20, z20, -⟩ := hv20.form2
                have HV20 := hide (HV10.out.later hv20.bel)
                have HI20 := hide i20
                have HZ20 := hide z20
                have hel := encAll_len (numsR KK ⟨r, m, y, d, ⟨f, g, b⟩⟩)
                have hnl := numsR_len KK ⟨r, m, y, d, ⟨f, g, b⟩⟩
                obtain ⟨L20, hL20⟩ : ∃ L20, (encAll (numsR KK ⟨r, m, y, d, ⟨f, g, b⟩⟩)).length = L20 := ⟨_, rfl⟩
                rw [hL20] at hel n20 ⊢
                have HL20 := hide hL20
                clear hv20 i20 z20 hL20
                go_wp2_with (at_builtin; refine stopw ?_)
                unfold Hid
                refine wpList_cat elemBytes rfl _ _ rfl rfl rfl HV20.out HI20.out HL20.out HZ20.out (by omega) (by omega) ?_
                intro v21 w21 hown
                have e21 : runBytes (pre ++ [(KK, (⟨r, m, y, d, ⟨f, g, b⟩⟩ : Cel))]) = runBytes pre ++ encAll (numsR KK ⟨r, m, y, d, ⟨f, g, b⟩⟩) := by rw [runBytes_append]; simp [runBytes]
                have HF21 : Hid (Own 5 .u8 w.heap.size w w21 v21 (enc (countR cs) ++ runBytes (pre ++ [(KK, (⟨r, m, y, d, ⟨f, g, b⟩⟩ : Cel))]))) := by unfold Hid; rw [e21, ← List.append_assoc]; exact hown
                clear hown e21
                go_wp2
                go_roundw
                case rel => exact ⟨k, pre ++ [(KK, (⟨r, m, y, d, ⟨f, g, b⟩⟩ : Cel))], by omega, rfl, by unfold Hid; rw [List.append_assoc, List.singleton_append, ← HRN.out]; exact HP.out, HF21⟩
                case measure => simp [intOf]; omega
    · have HF : Hid (enc (countR cs) ++ runBytes pre = bytesR cs) := by
        have := HP.out
        rw [List.drop_eq_nil_of_le (by rw [HN.out]; omega), runsOf, List.append_nil] at this
        unfold Hid bytesR
        rw [this]
      rw [HF.out] at HV
      go_wp2
      go_ret
      exact ⟨_, rfl, HV.out⟩
end
end Go.Proofs.YtkondkmfknbfjaaDoor
