/-
  Contracts: a number of an event (both); the chapter's examples.
-/
import Derived.Test.YtfngnmopdfojmaaPLaw
import Derived.Test.YtfngnmopdfojmaaPAll
import Derived.Lib.SlBytesConst
namespace Go.Proofs.Ytfngnmopdfojmaa
set_option maxRecDepth 100000
open Go.ChangeShapes Go.WideShapes Go.ChangeAt Go.RowKit
set_option linter.unusedVariables false

set_option maxHeartbeats 1000000 in
theorem pnum_any (kd r at_ none_ : Int) (A : Option Addr) (n c : Nat) (ns : List Int) (w : World) (hi : Ints .i64 w A ns) (hn : ns.length = n) :
    Calls Try.prog 18 #[.agg #[.int .i64 kd, .int .i32 r, .slice A n c], .int .i64 at_, .int .i64 none_] w (Num .i64 (numP ns at_ none_) w) := by
  have HB : Hid (Below w.heap.size w (w.alloc (.cells #[.int .i64 kd, .int .i32 r, .slice A n c] 56))) := (Below.refl _ _).alloc (Nat.le_refl _) _
  by_cases h0 : at_ < 0
  · have E : Hid (numP ns at_ none_ = none_) := by unfold Hid numP; rw [if_pos (.inl h0)]
    clear hi hn
    go_enter Try.func18, Try.ntmps18
    go_wp2
    go_ret
    exact ⟨ret_int (by rw [E.out]), HB.out⟩
  · by_cases h1 : (n : Int) ≤ at_
    · have E : Hid (numP ns at_ none_ = none_) := by unfold Hid numP; rw [if_pos (.inr (.inl (by rw [hn]; exact h1)))]
      have h0' : 0 ≤ at_ := by omega
      clear hi hn h0
      go_enter Try.func18, Try.ntmps18
      go_wp2
      go_ret
      exact ⟨ret_int (by rw [E.out]), HB.out⟩
    · obtain ⟨j, rfl⟩ : ∃ j : Nat, at_ = (j : Int) := ⟨at_.toNat, by omega⟩
      obtain ⟨b, off, rfl, hc, hb⟩ := hi.at (i := j) (by omega)
      obtain ⟨x, hx⟩ : ∃ x, ns.getD j 0 = x := ⟨_, rfl⟩
      rw [hx] at hc
      have h0' : (0 : Int) ≤ (j : Int) := by omega
      have h1' : (j : Int) < (n : Int) := by omega
      by_cases h2 : x = -1
      · subst h2
        have E : Hid (numP ns (j : Int) none_ = none_) := by unfold Hid numP; rw [if_pos (.inr (.inr (by simpa using hx)))]
        clear hi hn h0 h1 hx
        go_enter Try.func18, Try.ntmps18
        go_wp2
        go_ret
        exact ⟨ret_int (by rw [E.out]), HB.out⟩
      · have E : Hid (numP ns (j : Int) none_ = x) := by
          unfold Hid numP
          rw [if_neg, Int.toNat_natCast, hx]
          rintro (q | q | q)
          · omega
          · omega
          · rw [Int.toNat_natCast, hx] at q; exact h2 q
        have q2 : (x == -1) = false := by simp [h2]
        clear hi hn h0 h1 hx h2
        go_enter Try.func18, Try.ntmps18
        go_wp2
        go_ret
        exact ⟨ret_int (by rw [E.out]), HB.out⟩
set_option maxHeartbeats 1000000 in
theorem rpnum_any (kd r at_ none_ : Int) (A : Option Addr) (n c : Nat) (ns : List Int) (w : World) (hi : Ints .i64 w A ns) (hn : ns.length = n) :
    Calls Try.prog 19 #[.agg #[.int .i64 kd, .int .i64 r, .slice A n c], .int .i64 at_, .int .i64 none_] w (Num .i64 (numP ns at_ none_) w) := by
  have HB : Hid (Below w.heap.size w (w.alloc (.cells #[.int .i64 kd, .int .i64 r, .slice A n c] 58))) := (Below.refl _ _).alloc (Nat.le_refl _) _
  by_cases h0 : at_ < 0
  · have E : Hid (numP ns at_ none_ = none_) := by unfold Hid numP; rw [if_pos (.inl h0)]
    clear hi hn
    go_enter Try.func19, Try.ntmps19
    go_wp2
    go_ret
    exact ⟨ret_int (by rw [E.out]), HB.out⟩
  · by_cases h1 : (n : Int) ≤ at_
    · have E : Hid (numP ns at_ none_ = none_) := by unfold Hid numP; rw [if_pos (.inr (.inl (by rw [hn]; exact h1)))]
      have h0' : 0 ≤ at_ := by omega
      clear hi hn h0
      go_enter Try.func19, Try.ntmps19
      go_wp2
      go_ret
      exact ⟨ret_int (by rw [E.out]), HB.out⟩
    · obtain ⟨j, rfl⟩ : ∃ j : Nat, at_ = (j : Int) := ⟨at_.toNat, by omega⟩
      obtain ⟨b, off, rfl, hc, hb⟩ := hi.at (i := j) (by omega)
      obtain ⟨x, hx⟩ : ∃ x, ns.getD j 0 = x := ⟨_, rfl⟩
      rw [hx] at hc
      have h0' : (0 : Int) ≤ (j : Int) := by omega
      have h1' : (j : Int) < (n : Int) := by omega
      by_cases h2 : x = -1
      · subst h2
        have E : Hid (numP ns (j : Int) none_ = none_) := by unfold Hid numP; rw [if_pos (.inr (.inr (by simpa using hx)))]
        clear hi hn h0 h1 hx
        go_enter Try.func19, Try.ntmps19
        go_wp2
        go_ret
        exact ⟨ret_int (by rw [E.out]), HB.out⟩
      · have E : Hid (numP ns (j : Int) none_ = x) := by
          unfold Hid numP
          rw [if_neg, Int.toNat_natCast, hx]
          rintro (q | q | q)
          · omega
          · omega
          · rw [Int.toNat_natCast, hx] at q; exact h2 q
        have q2 : (x == -1) = false := by simp [h2]
        clear hi hn h0 h1 hx h2
        go_enter Try.func19, Try.ntmps19
        go_wp2
        go_ret
        exact ⟨ret_int (by rw [E.out]), HB.out⟩

/-! ### the examples -/
theorem cut_a : cut [97] = ([97], []) := by
  have h : first [97] = (97, 1) := by decide
  rw [cut_step (by rw [h]; decide), h]
  simp [cut_nil]
theorem all_known : allP [27, 91, 49, 59, 51, 49, 109, 97, 27, 91, 59, 53, 72, 27, 91, 63, 50, 53, 104] = [⟨3, 109, [1, 31]⟩, ⟨1, 97, []⟩, ⟨3, 72, [-1, 5]⟩] := by
  simp [allP, feedP, stepP, p0, brkE, digN, semiN, digV, bescN, cut_a, prE]
theorem all_b (bs : List Int) (h : Byte bs) : ∀ e ∈ allP bs, EvB e := by
  intro e he
  unfold allP at he
  rcases List.mem_append.1 he with q | q
  · exact feed_b bs p0 ok0 h e q
  · exact brk_b _ e q
set_option maxHeartbeats 2000000 in
theorem pknown_any (w : World) : Calls Try.prog 13 #[] w (Said true w) := by
  obtain ⟨W, hW⟩ : ∃ W, w.alloc (.cells #[.int .u8 27, .int .u8 91, .int .u8 49, .int .u8 59, .int .u8 51, .int .u8 49, .int .u8 109, .int .u8 97, .int .u8 27, .int .u8 91, .int .u8 59, .int .u8 53, .int .u8 72, .int .u8 27, .int .u8 91, .int .u8 63, .int .u8 50, .int .u8 53, .int .u8 104] 5 (19, 20)) = W := ⟨_, rfl⟩
  have HB : Hid (Below w.heap.size w W) := by unfold Hid; rw [← hW]; exact (Below.refl _ _).alloc (Nat.le_refl _) _
  have HI : Hid (Ints .u8 W (some ⟨w.heap.size, 0, none⟩) [27, 91, 49, 59, 51, 49, 109, 97, 27, 91, 59, 53, 72, 27, 91, 63, 50, 53, 104]) := by unfold Hid; rw [← hW]; exact Ints.newF .u8 w 5 (19, 20) [27, 91, 49, 59, 51, 49, 109, 97, 27, 91, 59, 53, 72, 27, 91, 63, 50, 53, 104]
  have hby : Byte [27, 91, 49, 59, 51, 49, 109, 97, 27, 91, 59, 53, 72, 27, 91, 63, 50, 53, 104] := by intro x hx; simp at hx; omega
  have kc : (convert 35 35 (.slice (some ⟨w.heap.size, 0, none⟩) 19 19)).run Try.prog (w.alloc (.cells #[.int .u8 27, .int .u8 91, .int .u8 49, .int .u8 59, .int .u8 51, .int .u8 49, .int .u8 109, .int .u8 97, .int .u8 27, .int .u8 91, .int .u8 59, .int .u8 53, .int .u8 72, .int .u8 27, .int .u8 91, .int .u8 63, .int .u8 50, .int .u8 53, .int .u8 104] 5)) = .ok (.slice (some ⟨w.heap.size, 0, none⟩) 19 19) (w.alloc (.cells #[.int .u8 27, .int .u8 91, .int .u8 49, .int .u8 59, .int .u8 51, .int .u8 49, .int .u8 109, .int .u8 97, .int .u8 27, .int .u8 91, .int .u8 59, .int .u8 53, .int .u8 72, .int .u8 27, .int .u8 91, .int .u8 63, .int .u8 50, .int .u8 53, .int .u8 104] 5 (19, 20))) := Lib.run_convert_bytes_const (P := Try.prog) w 35 5 #[.int .u8 27, .int .u8 91, .int .u8 49, .int .u8 59, .int .u8 51, .int .u8 49, .int .u8 109, .int .u8 97, .int .u8 27, .int .u8 91, .int .u8 59, .int .u8 53, .int .u8 72, .int .u8 27, .int .u8 91, .int .u8 63, .int .u8 50, .int .u8 53, .int .u8 104] 19 19 Try.underlying35 Try.underlying5
  have HW := hide hW
  have lW : w.heap.size < W.heap.size := by rw [← hW]; simp
  clear hW
  go_enter Try.func13, Try.ntmps13
  go_wp2_with fail
  rw [HW.out]
  refine (pall_any (some ⟨w.heap.size, 0, none⟩) 19 19 [27, 91, 49, 59, 51, 49, 109, 97, 27, 91, 59, 53, 72, 27, 91, 63, 50, 53, 104] W HI.out hby rfl (by omega) (by intro ad e _; cases e; exact lW)).mono ?_
  rintro e w1 ⟨v, rfl, ho⟩
  rw [all_known] at ho
  obtain ⟨A1, c1, rfl, hev, -, -, -⟩ := ho.form
  have HB1 := hide (HB.out.trans (ho.bel.mono HB.out.size))
  have HEV := hide hev
  clear ho hev HI kc
  obtain ⟨X, hX⟩ : ∃ X, ((w1.alloc (.cells #[.int .i64 1, .int .i64 31] 3)).alloc (.cells #[.int .i64 (-1), .int .i64 5] 3)).alloc (.cells #[.int .i64 3, .int .i64 109, .slice (some ⟨w1.heap.size, 0, none⟩) 2 2, .int .i64 1, .int .i64 97, .slice none 0 0, .int .i64 3, .int .i64 72, .slice (some ⟨w1.heap.size + 1, 0, none⟩) 2 2] 58) = X := ⟨_, rfl⟩
  have hb1 : Below w1.heap.size w1 X := by rw [← hX]; exact (((Below.refl _ _).alloc (Nat.le_refl _) _).alloc (by simp) _).alloc (by simp; omega) _
  have HFS : Hid (Evs 0 58 .i64 X (some ⟨w1.heap.size + 1 + 1, 0, none⟩) [⟨3, 109, [1, 31]⟩, ⟨1, 97, []⟩, ⟨3, 72, [-1, 5]⟩]) := by
    have i1 : IntsT 0 3 .i64 X (some ⟨w1.heap.size, 0, none⟩) [1, 31] := by
      rw [← hX]
      exact (((IntsT.new (C := 0) (k := .i64) w1 3 [1, 31]).below ((Below.refl _ _).alloc (Nat.le_refl _) _) (Nat.zero_le _)).below ((Below.refl _ _).alloc (Nat.le_refl _) _) (Nat.zero_le _))
    have i2 : IntsT 0 3 .i64 X (some ⟨w1.heap.size + 1, 0, none⟩) [-1, 5] := by
      rw [← hX]
      have := (IntsT.new (C := 0) (k := .i64) (w1.alloc (.cells #[.int .i64 1, .int .i64 31] 3)) 3 [-1, 5]).below ((Below.refl _ _).alloc (Nat.le_refl _) (.cells #[.int .i64 3, .int .i64 109, .slice (some ⟨w1.heap.size, 0, none⟩) 2 2, .int .i64 1, .int .i64 97, .slice none 0 0, .int .i64 3, .int .i64 72, .slice (some ⟨w1.heap.size + 1, 0, none⟩) 2 2] 58)) (Nat.zero_le _)
      simpa using this
    have hw : Whole X (w1.heap.size + 1 + 1) 58 [.int .i64 3, .int .i64 109, .slice (some ⟨w1.heap.size, 0, none⟩) 2 2, .int .i64 1, .int .i64 97, .slice none 0 0, .int .i64 3, .int .i64 72, .slice (some ⟨w1.heap.size + 1, 0, none⟩) 2 2] := by
      rw [← hX]
      have := Whole.new ((w1.alloc (.cells #[.int .i64 1, .int .i64 31] 3)).alloc (.cells #[.int .i64 (-1), .int .i64 5] 3)) 58 [.int .i64 3, .int .i64 109, .slice (some ⟨w1.heap.size, 0, none⟩) 2 2, .int .i64 1, .int .i64 97, .slice none 0 0, .int .i64 3, .int .i64 72, .slice (some ⟨w1.heap.size + 1, 0, none⟩) 2 2]
      simpa using this
    refine ⟨[⟨⟨3, 109, [1, 31]⟩, some ⟨w1.heap.size, 0, none⟩, 2⟩, ⟨⟨1, 97, []⟩, none, 0⟩, ⟨⟨3, 72, [-1, 5]⟩, some ⟨w1.heap.size + 1, 0, none⟩, 2⟩], rfl, ?_, .inr ⟨w1.heap.size + 1 + 1, 0, rfl, .inr ⟨_, hw⟩, fun j v hj => ?_⟩⟩
    · intro x hx
      simp only [List.mem_cons, List.not_mem_nil, or_false] at hx
      rcases hx with rfl | rfl | rfl
      · exact i1
      · exact .nil
      · exact i2
    · rw [Nat.zero_add, hw.cell]
      simpa [flatE, eaL] using hj
  have HEX := hide (HEV.out.below hb1 (Nat.zero_le _))
  have HBX := hide (HB1.out.trans (hb1.mono HB1.out.size))
  have HX := hide hX
  have HBD : Hid (∀ e ∈ ([⟨3, 109, [1, 31]⟩, ⟨1, 97, []⟩, ⟨3, 72, [-1, 5]⟩] : List Ev), EvB e) := by
    unfold Hid
    rw [← all_known]
    exact all_b _ hby
  clear hb1 hX
  go_wp2_with fail
  rw [HX.out]
  refine (lpsame_any 0 0 A1 (some ⟨w1.heap.size + 1 + 1, 0, none⟩) 3 3 c1 3 _ _ X HEX.out HFS.out (Nat.zero_le _) (Nat.zero_le _) rfl rfl (by omega) HBD.out).mono ?_
  rintro e w2 ⟨bo, hbo, rfl, hb2⟩
  obtain rfl : bo = true := hbo.2 rfl
  have HB2 := hide (HBX.out.trans (hb2.mono HBX.out.size))
  clear hbo hb2
  go_wp2
  go_ret
  exact ⟨rfl, HB2.out⟩
end Go.Proofs.Ytfngnmopdfojmaa
