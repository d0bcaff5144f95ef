/-
  Contract: a difference's bytes (the program's Bytes).
-/
import Derived.Test.YthogcfjlipaekaaDoorDePut
import Derived.Test.YthogcfjlipaekaaDoorDeTake1
import Derived.Test.YthogcfjlipaekaaDoorB16
import Derived.Test.YthogcfjlipaekaaDoorB7
namespace Go.Proofs.YthogcfjlipaekaaDoor
set_option maxRecDepth 100000
open Go.ChangeShapes Go.WideShapes Go.ChangeAt Go.RowKit
set_option linter.unusedVariables false

/-! ### what may be told is within bounds -/
structure SpIn (s : Sp) : Prop where
  r0 : 0 ≤ s.row
  r1 : s.row ≤ 512
  c0 : 0 ≤ s.col
  c1 : s.col ≤ 512
  len : s.cs.length ≤ 512
structure DfBd (d : Df) : Prop where
  a0 : 0 ≤ d.rows
  a1 : d.rows ≤ 512
  b0 : 0 ≤ d.cols
  b1 : d.cols ≤ 512
  c0 : 0 ≤ d.row
  c1 : d.row ≤ 512
  d0 : 0 ≤ d.col
  d1 : d.col ≤ 512
  many : d.ss.length ≤ 512
  each : ∀ i, i < d.ss.length → SpIn (sAt d.ss i)
theorem check_bd {d : Df} (hE : checkD d = 0) : DfBd d := by
  unfold checkD at hE
  split at hE
  · cases hE
  · rename_i hs
    split at hE
    · cases hE
    · rename_i hp
      have hs : sizeN d.rows d.cols := Classical.not_not.1 hs
      obtain ⟨⟨h1, h2⟩, h3, h4⟩ := hs
      have hu := rows_up (errTo_zero hE)
      refine ⟨by omega, by omega, by omega, by omega, by omega, by omega, by omega, by omega, ?_, fun i hi => ?_⟩
      · rcases Nat.eq_zero_or_pos d.ss.length with z | z
        · omega
        · have := hu (d.ss.length - 1) (by omega); omega
      · have h5 := hu i hi
        exact ⟨by omega, by omega, by omega, by omega, by omega⟩
theorem bytesSs_take (ss : List Sp) (k : Nat) : (bytesSs (ss.take k)).length ≤ (bytesSs ss).length := by
  have := bytesSs_append (ss.take k) (ss.drop k)
  rw [List.take_append_drop] at this
  rw [this, List.length_append]
  omega
theorem bytesSs_next (ss : List Sp) (k : Nat) (h : k < ss.length) : bytesSs (ss.take (k + 1)) = bytesSs (ss.take k) ++ (encAll [(sAt ss k).row, (sAt ss k).col] ++ bytesR (sAt ss k).cs) := by
  rw [take_nextS ss k h, bytesSs_append]
  congr 1
  unfold bytesSs bytesS
  simp [encAll]
def headB (d : Df) : List Int := encAll [d.rows, d.cols, d.row, d.col, (d.ss.length : Int)]
theorem bytesDe_head (d : Df) : bytesDe d = headB d ++ bytesSs d.ss := by unfold bytesDe headB; simp [encAll]
theorem headB_len (d : Df) : (headB d).length ≤ 50 := encAll_len _
theorem own_blk {e : TypeId} {k : IntKind} {B : Nat} {w wr : World} {v : Value} {bs : List Int} (h : Own e k B w wr v bs) {g : Nat} (hg : v.ownBlock = some g) : g < wr.heap.size := by
  rcases h.own.2 with ⟨rfl, _⟩ | ⟨g', cap, cur, rfl, _, hh, _⟩
  · cases hg
  · obtain rfl : g' = g := by simpa [Value.ownBlock] using hg
    exact (Array.getElem?_eq_some_iff.1 hh).1
theorem bytesR_pos (cs : List Cel) : 1 ≤ (bytesR cs).length := by
  unfold bytesR
  rw [List.length_append]
  have : 1 ≤ (enc (countR cs)).length := by unfold enc encF; split <;> simp
  omega
theorem Pt.ptx {B p x : Nat} {w w' : World} {bs : List Int} (h : Pt B p w bs) (hb : Below w.heap.size w w') (h1 : w.heap.size ≤ x) (h2 : x < w'.heap.size) : Ptx B p x w' bs := by
  obtain ⟨v, hv, ho⟩ := h.ex
  refine ⟨⟨v, hv.later hb, (ho.later hb).now, fun e => ?_⟩, h.ge, ?_, h2⟩
  · have := own_blk ho e; omega
  · have := hv.lt; omega
theorem Own.from0 {e : TypeId} {k : IntKind} {w w1 : World} (hb : Below w.heap.size w w1) : Own e k w.heap.size w w1 (.slice none 0 0) [] := ⟨World.ownsRow_nil _ _ _ _, hb, hb.size⟩
/-- What Bytes leaves. -/
def GaveX (Y : Int) (X : List Int) (w : World) (e : Ending) (w' : World) : Prop := ∃ v, e = .returned (.tuple #[v, .int .i64 Y]) ∧ Own 5 .u8 w.heap.size w w' v (if Y = 0 then X else [])
def GaveDB (d : Df) (w : World) (e : Ending) (w' : World) : Prop := GaveX (checkDe d) (bytesDe d) w e w'

set_option maxHeartbeats 4000000 in
theorem debytes_any (C : Nat) (te t : TypeId) (d : Df) (A : Option Addr) (n c : Nat) (w : World) (h : Sps C te t .i32 w A d.ss) (hC : C ≤ w.heap.size) (hn : d.ss.length = n) (hl : n ≤ 1000000) (hlb : ∀ s ∈ d.ss, LB s.cs) (hsz : (bytesSs d.ss).length ≤ 300000) (hS : Spans w) :
    Calls Tryd.prog 9 #[.agg #[.int .i64 d.rows, .int .i64 d.cols, .int .i64 d.row, .int .i64 d.col, .slice A n c]] w (GaveDB d w) := by
  have hbdf := @check_bd d
  have hhd := bytesDe_head d
  have hhl := headB_len d
  have hun : headB d = encAll [d.rows, d.cols, d.row, d.col, (d.ss.length : Int)] := rfl
  rw [hn] at hun
  have hcd : checkDe d = if checkD d = 0 then errTo (fun i => checkR (sAt d.ss i).cs) n else checkD d := by unfold checkDe; rw [hn]
  obtain ⟨hd0, hhd0⟩ : ∃ l, headB d = l := ⟨_, rfl⟩
  rw [hhd0] at hun hhl hhd
  unfold GaveDB
  obtain ⟨X, hX⟩ : ∃ X, bytesDe d = X := ⟨_, rfl⟩
  rw [hX] at hhd ⊢
  obtain ⟨Y, hY⟩ : ∃ Y, checkDe d = Y := ⟨_, rfl⟩
  rw [hY] at hcd ⊢
  have CHK := dfcheck_any C te t d A n c
  obtain ⟨E, hE⟩ : ∃ E, checkD d = E := ⟨_, rfl⟩
  rw [hE] at hbdf hcd CHK
  clear hX hY hE hhd0
  obtain ⟨R, K, r0, l0, ss⟩ := d
  simp only at h hn hlb hsz hhd hun hcd CHK ⊢
  obtain ⟨W0, hW0⟩ : ∃ W0, w.alloc (.cells #[.int .i64 R, .int .i64 K, .int .i64 r0, .int .i64 l0, .slice A n c] 24) = W0 := ⟨_, rfl⟩
  have HB0 : Hid (Below w.heap.size w W0) := by unfold Hid; rw [← hW0]; exact new1W _ _
  have HX0 : Hid (Whole W0 w.heap.size 24 [.int .i64 R, .int .i64 K, .int .i64 r0, .int .i64 l0, .slice A n c]) := by unfold Hid; rw [← hW0]; exact Whole.new w 24 [.int .i64 R, .int .i64 K, .int .i64 r0, .int .i64 l0, .slice A n c]
  have KEY := hide (CHK W0 (h.below HB0.out hC) (Nat.le_trans hC HB0.out.size) hn hl)
  have HW0 := hide hW0
  have HA := hide h
  have HC := hide hC
  have HN := hide hn
  have HLB := hide hlb
  have HS := hide hS
  have HSZ := hide hsz
  have HHD := hide hhd
  have HUN := hide hun
  have HCD := hide hcd
  clear hW0 h hC hn hlb hS hsz hhd hun hcd CHK
  obtain ⟨d0, d1, d2, d3, d4, ld⟩ := cells5 HX0.out
  go_enter Tryd.func9, Tryd.ntmps9
  go_wp2_with fail
  rw [HW0.out]
  refine KEY.out.mono ?_
  rintro e w1 ⟨rfl, hb1⟩
  have HX1 := hide (HX0.out.later hb1)
  have HB1 := hide (HB0.out.trans (hb1.mono HB0.out.size))
  clear hb1 d0 d1 d2 d3 d4 ld
  by_cases hz : E = 0
  · have e0 : (E != 0) = false := by simpa using hz
    have hb := hbdf hz
    have HCD2 : Hid (Y = errTo (fun i => checkR (sAt ss i).cs) n) := by unfold Hid; rw [HCD.out, if_pos hz]
    obtain ⟨a0, a1, b0, b1, c0, c1, f0, f1, hm, heach⟩ := hb
    simp only at a0 a1 b0 b1 c0 c1 f0 f1 hm heach
    rw [HN.out] at hm heach
    have HEA := hide heach
    clear hz hbdf heach
    obtain ⟨W2, hW2⟩ : ∃ W2, (w1.alloc (.cells #[.slice none 0 0] 31)).alloc (.cells #[.int .i64 R, .int .i64 K, .int .i64 r0, .int .i64 l0, .int .i64 (n : Int)] 3) = W2 := ⟨_, rfl⟩
    have hb2 : Below w1.heap.size w1 W2 := by rw [← hW2]; exact below2 w1 _ _
    have hp2 : Whole W2 w1.heap.size 31 [.slice none 0 0] := by rw [← hW2]; exact (Whole.new w1 31 [.slice none 0 0]).alloc _
    have hq2 : Whole W2 (w1.heap.size + 1) 3 ([R, K, r0, l0, (n : Int)].map (Value.int .i64)) := by rw [← hW2]; exact whole_snd w1 _ 3 [.int .i64 R, .int .i64 K, .int .i64 r0, .int .i64 l0, .int .i64 (n : Int)]
    have HX2 := hide (HX1.out.later hb2)
    have HB2 := hide (HB1.out.trans (hb2.mono HB1.out.size))
    have hx1 := HX1.out.lt
    have HP2 : Hid (Ptx w.heap.size w1.heap.size w.heap.size W2 []) := ⟨⟨_, hp2, Own.start HB2.out.size, by simp [Value.ownBlock]⟩, HB1.out.size, by omega, HX2.out.lt⟩
    obtain ⟨p, hp⟩ : ∃ p, w1.heap.size = p := ⟨_, rfl⟩
    rw [hp] at HP2 hq2
    have HPUT := hide (deput_any w.heap.size p w.heap.size (p + 1) 5 [] [R, K, r0, l0, (n : Int)] W2 HP2.out hq2 rfl (by omega) (by simp; omega) (by simp))
    have HW2 := hide hW2
    have HPB : Hid (w.heap.size < p) := by unfold Hid; omega
    have HPN := hide hp
    clear hb2 hp2 hq2 hW2
    clear hx1
    obtain ⟨d0, d1, d2, d3, d4, ld⟩ := cells5 HX1.out
    have lp := HPB.out
    go_wp2_with fail
    rw [HW2.out]
    refine HPUT.out.mono ?_
    rw [List.nil_append, ← HUN.out]
    rintro e w3 ⟨rfl, hpx, hx3⟩
    have HP3 := hide hpx.pt
    have HX3 : Hid (Whole w3 w.heap.size 24 [.int .i64 R, .int .i64 K, .int .i64 r0, .int .i64 l0, .slice A n c]) := HX2.out.same hx3.x
    have HB3 : Hid (Below w.heap.size w w3) := HB2.out.trans hx3.ap.bel
    clear hpx hx3 HPUT HP2 HW2 d0 d1 d2 d3 d4 ld hp lp
    obtain ⟨d0, d1, d2, d3, d4, ld⟩ := cells5 HX3.out
    go_wp2
    clear d0 d1 d2 d3 d4 ld
    go_loopw [8, 9, 10, 34] (fun _ _ _ i wr => ∃ k : Nat, k ≤ n ∧ i = .int .i64 k ∧ Hid (errTo (fun i => checkR (sAt ss i).cs) k = 0) ∧ Hid (Pt w.heap.size p wr (hd0 ++ bytesSs (ss.take k))) ∧ Hid (Below w.heap.size w wr)) (fun _ _ _ i _ => n - (intOf i).toNat)
    case atStart => exact ⟨0, Nat.zero_le _, rfl, rfl, by unfold Hid; rw [List.take_zero, show bytesSs [] = [] from rfl, List.append_nil]; exact HP3.out, HB3.out⟩
    case round =>
      obtain ⟨k, hk, rfl, HER, HPk, HBk⟩ := hrel
      by_cases hlt : k < n
      · have hks : k < ss.length := by rw [HN.out]; exact hlt
        obtain ⟨b, off, A1, c1', rfl, lb, x0, x1, x2, xi, hcap, hnone⟩ := (HA.out.below HBk.out HC.out).at (i := k) hks
        have hin := HEA.out k hlt
        have hlk : LB (sAt ss k).cs := HLB.out _ (mem_sAt ss k hks)
        have hnx := bytesSs_next ss k hks
        have hnl := bytesSs_take ss (k + 1)
        have hkl := bytesSs_take ss k
        have hbad := errTo_first (fun i => checkR (sAt ss i).cs) k n hlt HER.out
        have hgood := errTo_next (fun i => checkR (sAt ss i).cs) k HER.out
        rw [hnx] at hnl
        obtain ⟨x, hx⟩ : ∃ x, sAt ss k = x := ⟨_, rfl⟩
        rw [hx] at x0 x1 x2 xi hcap hin hlk hnx hnl
        simp only [hx] at hbad hgood
        obtain ⟨r, l, cs⟩ := x
        simp only at x0 x1 x2 xi hcap hlk hnx hnl hbad hgood
        obtain ⟨g0, g1, g2, g3, g4⟩ := hin
        simp only at g0 g1 g2 g3 g4
        obtain ⟨u, hu⟩ : ∃ u, cs.length = u := ⟨_, rfl⟩
        rw [hu] at x2 hcap g4
        have hsz := HSZ.out
        have HNX : Hid (hd0 ++ bytesSs (ss.take (k + 1)) = (hd0 ++ bytesSs (ss.take k)) ++ (encAll [r, l]) ++ bytesR cs) := by unfold Hid; rw [hnx]; simp only [List.append_assoc]
        obtain ⟨hk0, hhk0⟩ : ∃ l, hd0 ++ bytesSs (ss.take k) = l := ⟨_, rfl⟩
        rw [hhk0] at HPk HNX
        have hk0l : hk0.length ≤ 300100 := by rw [← hhk0, List.length_append]; omega
        have hrl : (bytesR cs).length ≤ 300000 := by simp only [List.length_append] at hnl; omega
        clear hnx hnl hkl hx hks hhk0
        obtain ⟨W4, hW4⟩ : ∃ W4, wr.alloc (.cells #[.int .i64 r, .int .i64 l, .slice A1 u c1'] 63) = W4 := ⟨_, rfl⟩
        have hb4 : Below wr.heap.size wr W4 := by rw [← hW4]; exact new1W _ _
        have hq4 : Whole W4 wr.heap.size 63 [.int .i64 r, .int .i64 l, .slice A1 u c1'] := by rw [← hW4]; exact Whole.new wr 63 [.int .i64 r, .int .i64 l, .slice A1 u c1']
        have HQ4 := hide hq4
        have HB4 := hide hb4
        have hSw : Spans W4 := (HS.out.below HBk.out).below hb4
        have BKEY := hide (runbytes_any A1 u c1' cs W4 (xi.cels.below hb4) hu (by omega) hcap (fun i hi => (hlk i (by omega)).2.2.2) hSw)
        have HW4 := hide hW4
        have HBAD := hide hbad
        have HGOOD := hide hgood
        clear hb4 hq4 hW4 hSw hlk xi hu hbad hgood
        go_wp2_with fail
        rw [HW4.out]
        clear x0 x1 x2 lb
        refine BKEY.out.mono ?_
        rintro e w5 ⟨v9, rfl, ho9⟩
        by_cases hR : checkR cs = 0
        · rw [if_pos hR] at ho9
          rw [hR]
          have HNE := hide (HGOOD.out hR)
          obtain ⟨b0, cap9, rfl, hb0l, hb0u⟩ := World.ownsRow.form ho9.own (bytesR_pos cs)
          have hi9 : Ints .u8 w5 (some ⟨b0, 0, none⟩) (bytesR cs) := by
            obtain ⟨A', c', e1, h1, -⟩ := ho9.form2
            cases e1
            exact h1
          obtain ⟨L9, hL9⟩ : ∃ L9, (bytesR cs).length = L9 := ⟨_, rfl⟩
          rw [hL9] at hrl ⊢
          have HL9 := hide hL9
          have HI9 := hide hi9
          have HB5 := hide (HB4.out.trans (ho9.bel.mono HB4.out.size))
          have HBL : Hid (wr.heap.size ≤ b0) := Nat.le_trans HB4.out.size hb0l
          have HQ5 := hide (HQ4.out.later ho9.bel)
          clear ho9 hi9 hL9 hb0l hR HBAD HGOOD
          obtain ⟨W6, hW6⟩ : ∃ W6, w5.alloc (.cells #[.int .i64 r, .int .i64 l] 3) = W6 := ⟨_, rfl⟩
          obtain ⟨q6, hq6⟩ : ∃ q6, w5.heap.size = q6 := ⟨_, rfl⟩
          have hb6 : Below w5.heap.size w5 W6 := by rw [← hW6]; exact new1W _ _
          have hw6 : Whole W6 q6 3 ([r, l].map (Value.int .i64)) := by rw [← hW6, ← hq6]; exact Whole.new w5 3 [.int .i64 r, .int .i64 l]
          have HB6 := hide (HB5.out.trans (hb6.mono HB5.out.size))
          have hpt6 : Ptx w.heap.size p b0 W6 hk0 := HPk.out.ptx HB6.out HBL.out (Nat.lt_of_lt_of_le hb0u hb6.size)
          have PKEY := hide (deput_any w.heap.size p b0 q6 2 hk0 [r, l] W6 hpt6 hw6 rfl (by omega) (by simp; omega) (by omega))
          have HI6 := hide (HI9.out.below hb6)
          have HW6 := hide hW6
          have HQ6 := hide hq6
          clear hb6 hw6 hpt6 hW6 hq6 hb0u
          obtain ⟨x0, x1, x2, lx⟩ := cells3 HQ5.out
          go_wp2_with fail
          rw [HW6.out, HQ6.out]
          refine PKEY.out.mono ?_
          rintro e w7 ⟨rfl, hpx, hx7⟩
          have HI7 : Hid (Ints .u8 w7 (some ⟨b0, 0, none⟩) (bytesR cs)) := by
            unfold Hid
            rcases HI6.out with z | ⟨b', off', ha, hc⟩
            · exact .inl z
            · cases ha
              exact .inr ⟨_, _, rfl, fun i hi => (tk_heap hx7.x).trans (hc i hi)⟩
          have HB7 : Hid (Below w.heap.size w w7) := (HBk.out.trans (HB6.out.mono HBk.out.size)).trans hx7.ap.bel
          obtain ⟨v7, hv7, ho7, -⟩ := hpx.ex
          have HV7 := hide hv7
          have HO7 := hide ho7
          obtain ⟨A7, c7, hf7, -⟩ := ho7.form2
          obtain ⟨L7, hL7⟩ : ∃ L7, (hk0 ++ encAll [r, l]).length = L7 := ⟨_, rfl⟩
          have hL7l : L7 ≤ 300200 := by
            have := encAll_len [r, l]
            rw [← hL7, List.length_append]
            simp only [List.length_cons, List.length_nil] at this
            omega
          rw [hL7] at hf7
          subst hf7
          have HL7 := hide hL7
          clear hpx hx7 hv7 ho7 hL7 x0 x1 x2 lx HI6
          have y0 : w7.cell? ⟨p, 0, none⟩ = some (.slice A7 L7 c7) := HV7.out.cell 0
          have yl := HV7.out.lt
          go_wp2_with (at_builtin; refine stopw ?_)
          unfold Hid
          refine wpList_catG elemBytes rfl _ _ rfl rfl rfl HO7.out HI7.out HL9.out (fun z => by cases z) (by rw [HL7.out]; omega) (by omega) ?_
          intro v8 w8 hown st
          have HV8 := hide (Others.of HO7.out st p 31 _ (by decide) HV7.out)
          have HB8 := hide (HB7.out.trans hown.bel)
          obtain ⟨A8, c8, hf8, -⟩ := hown.form2
          obtain ⟨L8, hL8⟩ : ∃ L8, (hk0 ++ encAll [r, l] ++ bytesR cs).length = L8 := ⟨_, rfl⟩
          rw [hL8] at hf8
          subst hf8
          have HO8 := hide hown.now
          clear hown st hL8 y0 yl
          have y0 : w8.cell? ⟨p, 0, none⟩ = some (.slice A7 L7 c7) := HV8.out.cell 0
          have yl := HV8.out.lt
          have yz := HV8.out.frozen 0
          have hst : Stay5 w8 (w8.setCell ⟨p, 0, none⟩ (.slice A8 L8 c8)) := Stay5.put HV8.out
          have HP9 : Hid (Pt w.heap.size p (w8.setCell ⟨p, 0, none⟩ (.slice A8 L8 c8)) (hk0 ++ encAll [r, l] ++ bytesR cs)) := ⟨⟨_, HV8.out.put 0 _, hst.own HO8.out (by simp [World.setCell])⟩, Nat.le_of_lt HPB.out⟩
          have HB9 : Hid (Below w.heap.size w (w8.setCell ⟨p, 0, none⟩ (.slice A8 L8 c8))) := HB8.out.setCell (p := ⟨p, 0, none⟩) (Nat.le_of_lt HPB.out) _
          clear hst
          go_wp2
          go_roundw
          case rel => exact ⟨k + 1, by omega, by go_num, HNE, by rw [HNX.out]; exact HP9, HB9⟩
          case measure => simp [intOf]; omega
        · obtain ⟨F, hF⟩ : ∃ F, checkR cs = F := ⟨_, rfl⟩
          have HYF : Hid (Y = F) := by unfold Hid; rw [HCD2.out, HBAD.out hR, hF]
          rw [hF] at hR ⊢
          have e1 : (F != 0) = true := by simpa using hR
          have HB5 := hide (HBk.out.trans ((HB4.out.trans (ho9.bel.mono HB4.out.size)).mono HBk.out.size))
          have HFZ := hide hR
          obtain ⟨A9, c9, hf9, -⟩ := ho9.form2
          obtain ⟨L9, hL9⟩ : ∃ L9, (if F = 0 then bytesR cs else []).length = L9 := ⟨_, rfl⟩
          rw [hF, hL9] at hf9
          subst hf9
          clear ho9 hF hR hL9
          go_wp2
          go_ret2
          exact ⟨.slice none 0 0, by rw [HYF.out]; rfl, by rw [HYF.out, if_neg HFZ.out]; exact (Own.from0 HB5.out)⟩
      · obtain rfl : k = n := by omega
        have HY : Hid (Y = 0) := by unfold Hid; rw [HCD2.out]; exact HER.out
        have HF : Hid (hd0 ++ bytesSs (ss.take k) = X) := by unfold Hid; rw [← HN.out, List.take_length, HHD.out]
        rw [HF.out] at HPk
        obtain ⟨v, hv, ho⟩ := HPk.out.ex
        obtain ⟨A7, c7, hf7, -⟩ := ho.form2
        obtain ⟨L7, hL7⟩ : ∃ L7, X.length = L7 := ⟨_, rfl⟩
        rw [hL7] at hf7
        subst hf7
        have HO := hide ho
        have y0 : wr.cell? ⟨p, 0, none⟩ = some (.slice A7 L7 c7) := hv.cell 0
        have yl := hv.lt
        clear hv ho hL7
        go_wp2
        go_ret2
        exact ⟨_, by rw [HY.out]; rfl, by rw [HY.out, if_pos rfl]; exact ⟨HO.out.own, HBk.out, HO.out.le⟩⟩
  · have e0 : (E != 0) = true := by simpa using hz
    have HY : Hid (Y = E) := by unfold Hid; rw [HCD.out, if_neg hz]
    have HZ := hide hz
    clear hz hbdf
    go_wp2
    go_ret2
    exact ⟨.slice none 0 0, by rw [HY.out]; rfl, by rw [HY.out, if_neg HZ.out]; exact (Own.from0 HB1.out)⟩
end Go.Proofs.YthogcfjlipaekaaDoor
