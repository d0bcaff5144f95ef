/-
  Contracts: what is wrong with a frame (the program's Check, the document's), its bytes (the document's).
-/
import Derived.Test.YtcbdokocnjoilaaGreatDoorFrBytes
import Derived.Test.YtcbdokocnjoilaaGreatDoorFrLaw
import Derived.Test.YtcbdokocnjoilaaGreatDoorH20
import Derived.Test.YtcbdokocnjoilaaGreatDoorH8
import Derived.Lib.SlBytesConst
import Derived.ArgAppend
namespace Go.Proofs.YtcbdokocnjoilaaGreatDoor
set_option maxRecDepth 100000
open Go.ChangeShapes Go.WideShapes Go.ChangeAt Go.RowKit
set_option linter.unusedVariables false

set_option maxHeartbeats 2000000 in
theorem frcheck_any (C : Nat) (te t : TypeId) (f : Fm) (A : Option Addr) (n c : Nat) (w : World) (hok : FmOk f) (h : Sps C te t .i32 w A f.d.ss) (hC : C ≤ w.heap.size) (hn : f.d.ss.length = n) (hl : n ≤ 1000000) (hlb : ∀ s ∈ f.d.ss, LB s.cs) (hsz : (bytesSs f.d.ss).length ≤ 300000) (hS : Spans w) :
    Calls Tryz.prog 8 #[.agg #[.int .u64 f.num, .int .u64 f.base, .int .u64 f.echo, .int .u64 f.stamp, .int .i64 f.d.rows, .int .i64 f.d.cols, .int .i64 f.d.row, .int .i64 f.d.col, .slice A n c]] w (Num .i64 (checkFm f) w) := by
  obtain ⟨W0, hW0⟩ : ∃ W0, w.alloc (.cells #[.int .u64 f.num, .int .u64 f.base, .int .u64 f.echo, .int .u64 f.stamp, .int .i64 f.d.rows, .int .i64 f.d.cols, .int .i64 f.d.row, .int .i64 f.d.col, .slice A n c] 27) = W0 := ⟨_, rfl⟩
  have HB0 : Hid (Below w.heap.size w W0) := by unfold Hid; rw [← hW0]; exact new1W _ _
  have HX0 : Hid (Whole W0 w.heap.size 27 [.int .u64 f.num, .int .u64 f.base, .int .u64 f.echo, .int .u64 f.stamp, .int .i64 f.d.rows, .int .i64 f.d.cols, .int .i64 f.d.row, .int .i64 f.d.col, .slice A n c]) := by unfold Hid; rw [← hW0]; exact Whole.new w 27 [.int .u64 f.num, .int .u64 f.base, .int .u64 f.echo, .int .u64 f.stamp, .int .i64 f.d.rows, .int .i64 f.d.cols, .int .i64 f.d.row, .int .i64 f.d.col, .slice A n c]
  have KEY := hide (frbytes_any C te t f A n c W0 hok (h.below HB0.out hC) (Nat.le_trans hC HB0.out.size) hn hl hlb hsz (hS.below HB0.out))
  have HW0 := hide hW0
  clear hW0 h hC hn hl hlb hsz hS hok
  obtain ⟨Y, hY⟩ : ∃ Y, checkFm f = Y := ⟨_, rfl⟩
  rw [hY] at KEY ⊢
  clear hY
  obtain ⟨X, hX⟩ : ∃ X, bytesFm f = X := ⟨_, rfl⟩
  rw [hX] at KEY
  clear hX
  obtain ⟨f0, f1, f2, f3, f4, f5, f6, f7, f8, lf⟩ := cells9 HX0.out
  go_enter Tryz.func8, Tryz.ntmps8
  go_upto_region 1 with fail
  rw [HW0.out]
  go_wp2_with fail
  refine KEY.out.mono ?_
  rintro e w1 ⟨v, rfl, ho⟩
  have HB1 := hide (HB0.out.trans (ho.bel.mono HB0.out.size))
  clear ho f0 f1 f2 f3 f4 f5 f6 f7 f8 lf
  go_wp2
  go_ret
  exact ⟨rfl, HB1.out⟩
theorem bytesFm_all (f : Fm) : bytesFm f = (70 :: encAll [f.num, f.base, f.echo, f.stamp]) ++ bytesDe f.d := by
  unfold bytesFm
  simp [encAll]
theorem enc_pos4 (a b c d : Int) : 1 ≤ (encAll [a, b, c, d]).length := by
  have h := (enc_len a.toNat).1
  simp only [encAll_cons, List.length_append]
  omega
set_option maxHeartbeats 4000000 in
theorem rfrbytes_any (C : Nat) (te t : TypeId) (f : Fm) (A : Option Addr) (n c : Nat) (w : World) (hok : FmOk f) (h : Sps C te t .i64 w A f.d.ss) (hC : C ≤ w.heap.size) (hn : f.d.ss.length = n) (ht : 5 ≠ t) (hd : checkDe f.d = 0) (hsz : (bytesSs f.d.ss).length ≤ 300000) :
    Calls Tryz.prog 14 #[.agg #[.int .u64 f.num, .int .u64 f.base, .int .u64 f.echo, .int .u64 f.stamp, .int .i64 f.d.rows, .int .i64 f.d.cols, .int .i64 f.d.row, .int .i64 f.d.col, .slice A n c]] w (Made 5 .u8 w (bytesFm f)) := by
  have kc := fun (w : World) (C : Array Value) (n c : Nat) => Lib.run_convert_bytes_const (P := Tryz.prog) w 36 5 C n c Tryz.underlying36 Tryz.underlying5
  have HALL := hide (bytesFm_all f)
  have HDL := hide (bytesDe_len hsz)
  have HPOS := hide (enc_pos4 f.num f.base f.echo f.stamp)
  have hel := encAll_len [f.num, f.base, f.echo, f.stamp]
  simp only [List.length_cons, List.length_nil] at hel
  have HEL := hide hel
  clear hel
  obtain ⟨W0, hW0⟩ : ∃ W0, w.alloc (.cells #[.int .u64 f.num, .int .u64 f.base, .int .u64 f.echo, .int .u64 f.stamp, .int .i64 f.d.rows, .int .i64 f.d.cols, .int .i64 f.d.row, .int .i64 f.d.col, .slice A n c] 34) = W0 := ⟨_, rfl⟩
  have HB0 : Hid (Below w.heap.size w W0) := by unfold Hid; rw [← hW0]; exact new1W _ _
  have HX0 : Hid (Whole W0 w.heap.size 34 [.int .u64 f.num, .int .u64 f.base, .int .u64 f.echo, .int .u64 f.stamp, .int .i64 f.d.rows, .int .i64 f.d.cols, .int .i64 f.d.row, .int .i64 f.d.col, .slice A n c]) := by unfold Hid; rw [← hW0]; exact Whole.new w 34 [.int .u64 f.num, .int .u64 f.base, .int .u64 f.echo, .int .u64 f.stamp, .int .i64 f.d.rows, .int .i64 f.d.cols, .int .i64 f.d.row, .int .i64 f.d.col, .slice A n c]
  obtain ⟨W1, hW1⟩ : ∃ W1, W0.alloc (.cells #[.int .u8 70] 5 (1, 2)) = W1 := ⟨_, rfl⟩
  have hb1 : Below W0.heap.size W0 W1 := by rw [← hW1]; exact (Below.refl _ _).alloc (Nat.le_refl _) _
  have HC1 : Hid (W1.cell? ⟨W0.heap.size, 0, none⟩ = some (.int .u8 70)) := by unfold Hid; rw [← hW1, World.cell?_alloc_mark]; rfl
  have HX1 := hide (HX0.out.later hb1)
  have HB1 := hide (HB0.out.trans (hb1.mono HB0.out.size))
  have HL1 : Hid (W0.heap.size < W1.heap.size) := by unfold Hid; rw [← hW1]; simp
  have HG : Hid (w.heap.size ≤ W0.heap.size) := HB0.out.size
  obtain ⟨W2, hW2⟩ : ∃ W2, W1.alloc (.cells #[.int .u64 f.num, .int .u64 f.base, .int .u64 f.echo, .int .u64 f.stamp] 22) = W2 := ⟨_, rfl⟩
  have hb2 : Below W1.heap.size W1 W2 := by rw [← hW2]; exact new1W _ _
  have hi2 : Ints .u64 W2 (some ⟨W1.heap.size, 0, none⟩) [f.num, f.base, f.echo, f.stamp] := by rw [← hW2]; exact Ints.new .u64 W1 22 [f.num, f.base, f.echo, f.stamp]
  have KEY := hide (nu_all_any _ 4 4 [f.num, f.base, f.echo, f.stamp] W2 hi2 rfl (by omega) (by have h1 := hok.num; have h2 := hok.base; have h3 := hok.echo; have h4 := hok.stamp; unfold U64 at h1 h2 h3 h4; intro z hz; simp only [List.mem_cons, List.not_mem_nil, or_false] at hz; rcases hz with rfl | rfl | rfl | rfl <;> omega))
  have HX2 := hide (HX1.out.later hb2)
  have HC2 : Hid (W2.cell? ⟨W0.heap.size, 0, none⟩ = some (.int .u8 70)) := by unfold Hid; rw [hb2.cell (p := ⟨W0.heap.size, 0, none⟩) HL1.out]; exact HC1.out
  have HB2 := hide (HB1.out.trans (hb2.mono HB1.out.size))
  have HL2 : Hid (W0.heap.size < W2.heap.size) := Nat.lt_of_lt_of_le HL1.out hb2.size
  have HA := hide h
  have HN := hide hn
  have HHC := hide hC
  have HCD := hide hd
  have HSZ := hide hsz
  have HT := hide ht
  have HW0 := hide hW0
  have HW1 := hide hW1
  have HW2 := hide hW2
  obtain ⟨g, hg⟩ : ∃ g, W0.heap.size = g := ⟨_, rfl⟩
  have HG0 := hide hg
  obtain ⟨E, hE⟩ : ∃ E, encAll [f.num, f.base, f.echo, f.stamp] = E := ⟨_, rfl⟩
  rw [hE] at HALL HPOS HEL KEY
  obtain ⟨X, hX⟩ : ∃ X, bytesDe f.d = X := ⟨_, rfl⟩
  rw [hX] at HALL HDL
  have HXD := hide hX
  clear hg hW0 hW1 hW2 h hn hC hd hsz ht hok hb1 hb2 hi2 hE hX
  obtain ⟨f0, f1, f2, f3, f4, f5, f6, f7, f8, lf⟩ := cells9 HX1.out
  go_enter Tryz.func14, Tryz.ntmps14
  go_upto_region 1 with fail
  rw [HW0.out]
  go_wp2_with (rw [HW1.out])
  rw [HW2.out]
  refine KEY.out.mono ?_
  rintro e w3 ⟨v3, rfl, ho⟩
  rw [HG0.out] at HC2 HL2 HG ⊢
  have HX3 := hide (HX2.out.later ho.bel)
  have HC3 : Hid (w3.cell? ⟨g, 0, none⟩ = some (.int .u8 70)) := by unfold Hid; rw [ho.bel.cell (p := ⟨g, 0, none⟩) HL2.out]; exact HC2.out
  have HB3 := hide (HB2.out.trans (ho.bel.mono HB2.out.size))
  obtain ⟨A3, c3, rfl, hi3, hcc3, hz3, -⟩ := ho.form2
  obtain ⟨m, hm⟩ : ∃ m, E.length = m := ⟨_, rfl⟩
  rw [hm]
  have HM := hide hm
  rw [hm] at HPOS HEL
  obtain ⟨ad, rfl, hcell⟩ : ∃ ad, A3 = some ad ∧ ∀ j u, (E.map (Value.int .u8))[j]? = some u → w3.cell? (ad.add j) = some u := by
    rcases hi3 with h0 | ⟨b, off, rfl, hc⟩
    · have h1 : m = 0 := by rw [← hm, h0]; rfl
      have := HPOS.out
      omega
    · refine ⟨_, rfl, fun j u hu => ?_⟩
      rw [List.getElem?_map] at hu
      obtain ⟨z, hz, rfl⟩ := Option.map_eq_some_iff.1 hu
      have hj : j < E.length := (List.getElem?_eq_some_iff.1 hz).1
      have := hc j hj
      rw [List.getD_eq_getElem?_getD, hz] at this
      show w3.cell? (if j = 0 then _ else _) = _
      by_cases hj0 : j = 0
      · subst hj0; rw [if_pos rfl]; exact this
      · rw [if_neg hj0]; exact this
  have HCELL := hide hcell
  clear ho hi3 hcc3 hz3 hm hcell f0 f1 f2 f3 f4 f5 f6 f7 f8 lf
  go_wp2_with (at_builtin; refine stopw ?_)
  unfold Hid
  obtain ⟨i0, hi, hz0, hz1, hz2⟩ := info_parts elemBytes.info
  refine wpList_append_grows w3 rfl _ _ 36 rfl 5 i0 (.int .u8 0) 1 1 elemBytes.under hi hz0 hz1 hz2 rfl (by decide) (some ⟨g, 0, none⟩) 1 1 [.int .u8 70] rfl (fun z => by cases z) rfl (fun b hb j u hu => by
      cases hb
      cases j with
      | zero => simp only [List.getElem?_cons_zero, Option.some.injEq] at hu; subst hu; exact HC3.out
      | succ j => simp at hu) ad m c3 (E.map (Value.int .u8)) rfl (by rw [List.length_map, HM.out]; omega) HCELL.out (oneCells .u8 E) (by have := HPOS.out; omega) (by have := HEL.out; unfold maxLen; omega) (by have := HEL.out; omega) ?_
  intro v4 w4 hown hgr
  have HO4 : Hid (Own 5 .u8 w.heap.size w4 w4 v4 (70 :: E)) := by
    have e1 : (70 :: E : List Int).length = 1 + m := by rw [List.length_cons, HM.out]; omega
    have h0 : Own 5 .u8 w3.heap.size w4 w4 v4 (70 :: E) := ⟨by rw [e1]; exact hown, Below.refl _ _, hgr.size⟩
    exact h0.lower HB3.out.size (Below.refl _ _)
  have HX4 := hide (HX3.out.later ((Below.refl w3.heap.size w3).grown hgr (Nat.le_refl _) (fun k hk => by cases hk)))
  have HB4 := hide (HB3.out.grown hgr HB3.out.size (fun k hk => by cases hk))
  clear hown hgr hi hz0 hz1 hz2 kc
  obtain ⟨A4, c4, rfl, -⟩ := HO4.out.form2
  rw [show (70 :: E : List Int).length = m + 1 from by rw [List.length_cons, HM.out]] at HO4 ⊢
  obtain ⟨f0, f1, f2, f3, f4, f5, f6, f7, f8, lf⟩ := cells9 HX4.out
  go_wp2_with fail
  refine (rdebytes_any C te t f.d A n c w4 (HA.out.below HB4.out HHC.out) (Nat.le_trans HHC.out HB4.out.size) HN.out HT.out HCD.out HSZ.out).mono ?_
  rw [HXD.out]
  rintro e w5 ⟨v5, rfl, ho⟩
  have HO5 := hide (HO4.out.later ho.bel)
  have HB5 := hide (HB4.out.trans (ho.bel.mono HB4.out.size))
  obtain ⟨A5, c5, rfl, hi5, -, hz5, -⟩ := ho.form2
  obtain ⟨L, hL⟩ : ∃ L, X.length = L := ⟨_, rfl⟩
  rw [hL]
  have HL := hide hL
  have HI5 := hide hi5
  have HZ5 := hide hz5
  have HLL : Hid ((70 :: E : List Int).length + L ≤ 1000000) := by
    have h1 := HEL.out
    have h2 := HDL.out
    rw [hL] at h2
    have h3 : (70 :: E : List Int).length = m + 1 := by rw [List.length_cons, HM.out]
    unfold Hid
    omega
  clear ho hi5 hz5 hL f0 f1 f2 f3 f4 f5 f6 f7 f8 lf
  go_wp2_with (at_builtin; refine stopw ?_)
  unfold Hid
  refine wpList_catG elemBytes rfl _ _ rfl rfl rfl HO5.out HI5.out HL.out HZ5.out HLL.out (by omega) ?_
  intro v6 w6 hown hgr
  have HB6 := hide (HB4.out.trans hown.bel)
  go_wp2
  go_ret
  refine ⟨v6, rfl, ?_⟩
  rw [HALL.out]
  exact ⟨hown.own, HB6.out, hown.le⟩
set_option maxHeartbeats 2000000 in
theorem rfrcheck_any (C : Nat) (te t : TypeId) (f : Fm) (A : Option Addr) (n c : Nat) (w : World) (hok : FmOk f) (h : Sps C te t .i64 w A f.d.ss) (hC : C ≤ w.heap.size) (hn : f.d.ss.length = n) (hl : n ≤ 1000000) (ht : 5 ≠ t) (hlb : ∀ s ∈ f.d.ss, LB s.cs) (hbd : ∀ s ∈ f.d.ss, s.cs.length ≤ 1000000) (hsz : (bytesSs f.d.ss).length ≤ 300000) :
    Calls Tryz.prog 5 #[.agg #[.int .u64 f.num, .int .u64 f.base, .int .u64 f.echo, .int .u64 f.stamp, .int .i64 f.d.rows, .int .i64 f.d.cols, .int .i64 f.d.row, .int .i64 f.d.col, .slice A n c]] w (Num .i64 (checkFm f) w) := by
  obtain ⟨W0, hW0⟩ : ∃ W0, w.alloc (.cells #[.int .u64 f.num, .int .u64 f.base, .int .u64 f.echo, .int .u64 f.stamp, .int .i64 f.d.rows, .int .i64 f.d.cols, .int .i64 f.d.row, .int .i64 f.d.col, .slice A n c] 34) = W0 := ⟨_, rfl⟩
  have HB0 : Hid (Below w.heap.size w W0) := by unfold Hid; rw [← hW0]; exact new1W _ _
  have HX0 : Hid (Whole W0 w.heap.size 34 [.int .u64 f.num, .int .u64 f.base, .int .u64 f.echo, .int .u64 f.stamp, .int .i64 f.d.rows, .int .i64 f.d.cols, .int .i64 f.d.row, .int .i64 f.d.col, .slice A n c]) := by unfold Hid; rw [← hW0]; exact Whole.new w 34 [.int .u64 f.num, .int .u64 f.base, .int .u64 f.echo, .int .u64 f.stamp, .int .i64 f.d.rows, .int .i64 f.d.cols, .int .i64 f.d.row, .int .i64 f.d.col, .slice A n c]
  have KEY := hide (rdecheck_any C te t f.d A n c W0 (h.below HB0.out hC) (Nat.le_trans hC HB0.out.size) hn hl hlb hbd)
  have KB := hide (fun (w' : World) (hb : Below w.heap.size w w') (hd : checkDe f.d = 0) => rfrbytes_any C te t f A n c w' hok (h.below hb hC) (Nat.le_trans hC hb.size) hn ht hd hsz)
  have HW0 := hide hW0
  have hcf : checkFm f = if f.num ≤ f.base then 17 else if checkDe f.d = 0 then (if 65536 < (bytesFm f).length then 2 else 0) else checkDe f.d := rfl
  have HDL := hide (bytesDe_len hsz)
  have HFL : Hid ((bytesFm f).length ≤ 400000) := by
    unfold Hid
    have h1 := bytesFm_all f
    have h2 := encAll_len [f.num, f.base, f.echo, f.stamp]
    have h3 := HDL.out
    rw [h1, List.length_append, List.length_cons]
    simp only [List.length_cons, List.length_nil] at h2
    omega
  obtain ⟨Y, hY⟩ : ∃ Y, checkDe f.d = Y := ⟨_, rfl⟩
  rw [hY] at KEY KB hcf
  obtain ⟨Z, hZ⟩ : ∃ Z, checkFm f = Z := ⟨_, rfl⟩
  rw [hZ] at hcf ⊢
  obtain ⟨X, hX⟩ : ∃ X, bytesFm f = X := ⟨_, rfl⟩
  rw [hX] at KB hcf HFL
  clear hY hZ hX hW0 h hC hn hl ht hlb hbd hsz hok HDL
  have HCF := hide hcf
  clear hcf
  obtain ⟨f0, f1, f2, f3, f4, f5, f6, f7, f8, lf⟩ := cells9 HX0.out
  obtain ⟨q1, hq1⟩ : ∃ q, decide (f.num ≤ f.base) = q := ⟨_, rfl⟩
  cases q1 with
  | true =>
    have HZ : Hid (Z = 17) := by unfold Hid; rw [HCF.out, if_pos (of_decide_eq_true hq1)]
    go_enter Tryz.func5, Tryz.ntmps5
    go_upto_region 1 with fail
    rw [HW0.out]
    go_wp2
    go_ret
    exact ⟨by rw [HZ.out]; rfl, HB0.out⟩
  | false =>
    have HCG : Hid (Z = if Y = 0 then (if 65536 < X.length then 2 else 0) else Y) := by unfold Hid; rw [HCF.out, if_neg (of_decide_eq_false hq1)]
    clear HCF
    go_enter Tryz.func5, Tryz.ntmps5
    go_upto_region 1 with fail
    rw [HW0.out]
    go_wp2_with fail
    refine KEY.out.mono ?_
    rintro e w1 ⟨rfl, hb⟩
    have HX1 := hide (HX0.out.later hb)
    have HB1 := hide (HB0.out.trans (hb.mono HB0.out.size))
    clear hb f0 f1 f2 f3 f4 f5 f6 f7 f8 lf
    by_cases hy : Y = 0
    · have e1 : (Y == 0) = true := by simpa using hy
      have KB2 := hide (KB.out w1 HB1.out hy)
      have HZ : Hid (Z = if 65536 < X.length then 2 else 0) := by unfold Hid; rw [HCG.out, if_pos hy]
      have HY0 := hide hy
      clear hy KB
      obtain ⟨f0, f1, f2, f3, f4, f5, f6, f7, f8, lf⟩ := cells9 HX1.out
      go_wp2_with fail
      refine KB2.out.mono ?_
      clear KB2
      rintro e w2 ⟨v, rfl, ho⟩
      obtain ⟨A2, c2, rfl, -⟩ := ho.form2
      have HB2 := hide (HB1.out.trans (ho.bel.mono HB1.out.size))
      obtain ⟨L, hL⟩ : ∃ L, X.length = L := ⟨_, rfl⟩
      rw [hL] at HZ HFL ⊢
      clear ho hL f0 f1 f2 f3 f4 f5 f6 f7 f8 lf
      obtain ⟨q2, hq2⟩ : ∃ q, decide ((65536 : Int) < (L : Int)) = q := ⟨_, rfl⟩
      cases q2 with
      | true =>
        have HZ2 : Hid (Z = 2) := by unfold Hid; rw [HZ.out, if_pos (by have := of_decide_eq_true hq2; omega)]
        go_wp2
        go_ret
        exact ⟨by rw [HZ2.out]; rfl, HB2.out⟩
      | false =>
        have HZ2 : Hid (Z = Y) := by unfold Hid; rw [HZ.out, if_neg (by have := of_decide_eq_false hq2; omega), HY0.out]
        go_wp2
        go_ret
        exact ⟨by rw [HZ2.out]; rfl, HB2.out⟩
    · have e1 : (Y == 0) = false := by simpa using hy
      have HZ : Hid (Z = Y) := by unfold Hid; rw [HCG.out, if_neg hy]
      clear hy KB
      go_wp2
      go_ret
      exact ⟨by rw [HZ.out]; rfl, HB1.out⟩
end Go.Proofs.YtcbdokocnjoilaaGreatDoor
