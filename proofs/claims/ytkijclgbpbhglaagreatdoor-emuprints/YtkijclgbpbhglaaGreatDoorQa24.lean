/-
  A scalar's bytes, those of many: plain mathematics and contracts (both).
  Contracts: a line's text (both).
  Contracts: the document's sizes, a row that there is, columns, a number brought to a bound, a new grid, a grid with another line.
  The chapter's example holds.
  The walk of the law EmuNil.
  What the walks share: small; two emulators that share nothing.
  The walk of the law EmuCuts.
  Contracts: the document's grid with another line, with a cell put, a mark more, blanks, a line laid.
  Contracts: the document's grid with a cell put, a mark more.
  Contract: the document's grid whose rows moved.
  Contracts: the document's grid with blanks, a line laid, the cursor moved.
  Contracts: the document's grid of another size, whether two are the same; a program's grid as the document's.
  Contracts: the law's Same of grids, a cell of a grid by place (taken from grid's texts).
  What the row's condition on the program's table gives the walks, and a start that meets it.
-/
import Derived.Test.YtkijclgbpbhglaaGreatDoorQa7
import Derived.Test.YtkijclgbpbhglaaGreatDoorQa12
import Derived.Test.YtkijclgbpbhglaaGreatDoorQa3
import Derived.Laws.BitsAllLaws
import Derived.Test.YtkijclgbpbhglaaGreatDoorQa8
import Derived.Test.YtkijclgbpbhglaaGreatDoorQa4
import Derived.Test.YtkijclgbpbhglaaGreatDoorQa9
import Derived.Test.YtkijclgbpbhglaaGreatDoorQa23
import Derived.Lib.SlBytesConst
import Derived.Test.YtkijclgbpbhglaaGreatDoorQa1
import Derived.Lib.MinMax
import Derived.LaidMore
import Derived.Deep.Strs
import Derived.Stop.Joined
namespace Go.Proofs.YtkijclgbpbhglaaGreatDoor
set_option maxRecDepth 100000
open Go.ChangeShapes Go.WideShapes Go.ChangeAt Go.RowKit
set_option linter.unusedVariables false

theorem elemB : Elem Tryz.prog 34 5 .u8 1 := ⟨Tryz.underlying34, info5⟩
set_option maxHeartbeats 400000 in
theorem utail_any (r : Int) (w : World) (h0 : 0 ≤ r) (h1 : r ≤ 1114111) : Calls Tryz.prog 166 #[.int .i32 r] w fun e w' => e = .returned (.int .u8 (128 + r % 64)) ∧ w = w' := by
  go_enter Tryz.func166, Tryz.ntmps166
  go_wp2
  go_ret
  exact ⟨rfl, rfl⟩

set_option maxHeartbeats 1000000 in
theorem uput_any (r : Int) (h : isSc r = true) (B : Nat) (w wr : World) (v : Value) (bs : List Int) (hown : Own 5 .u8 B w wr v bs) (hl : bs.length ≤ 1000) :
    Calls Tryz.prog 122 #[v, .int .i32 r] wr fun e w' => ∃ v', e = .returned v' ∧ Own 5 .u8 B w w' v' (bs ++ encS r) := by
  obtain ⟨h0, h9, _⟩ := (isSc_iff r).1 h
  clear h
  by_cases h1 : r < 128
  · have E := hide (encS1 h1)
    have h1' : r ≤ 127 := by omega
    go_enter Tryz.func122, Tryz.ntmps122
    go_wp2_with (at_builtin; refine wpList_push elemB rfl _ _ rfl rfl rfl hown (by omega) (by omega) ?_; intro v' w2 hown2)
    go_ret
    exact ⟨_, rfl, by rw [E.out]; exact hown2⟩
  by_cases h2 : r < 2048
  · have E := hide (encS2 h1 h2)
    have g1 : 127 < r := by omega
    have g2 : r ≤ 2047 := by omega
    go_enter Tryz.func122, Tryz.ntmps122
    go_wp2_with (first | (go_at_call 166; refine (utail_any _ _ (by omega) (by omega)).mono ?_; rintro e w' ⟨rfl, rfl⟩) | (at_builtin; refine wpList_cat elemB rfl _ _ rfl rfl rfl (hown.alloc _) (Ints.new .u8 wr 5 [_, _]) rfl (fun h => by cases h) (by simp; omega) (by omega) ?_; intro v' w2 hown2))
    go_ret
    exact ⟨_, rfl, by rw [E.out]; exact hown2⟩
  by_cases h3 : r < 65536
  · have E := hide (encS3 h2 h3)
    have g1 : 127 < r := by omega
    have g2 : 2047 < r := by omega
    have g3 : r ≤ 65535 := by omega
    go_enter Tryz.func122, Tryz.ntmps122
    go_wp2_with (first | (go_at_call 166; refine (utail_any _ _ (by omega) (by omega)).mono ?_; rintro e w' ⟨rfl, rfl⟩) | (at_builtin; refine wpList_cat elemB rfl _ _ rfl rfl rfl (hown.alloc _) (Ints.new .u8 wr 5 [_, _, _]) rfl (fun h => by cases h) (by simp; omega) (by omega) ?_; intro v' w2 hown2))
    go_ret
    exact ⟨_, rfl, by rw [E.out]; exact hown2⟩
  · have E := hide (encS4 h3)
    have g1 : 127 < r := by omega
    have g2 : 2047 < r := by omega
    have g3 : 65535 < r := by omega
    go_enter Tryz.func122, Tryz.ntmps122
    go_wp2_with (first | (go_at_call 166; refine (utail_any _ _ (by omega) (by omega)).mono ?_; rintro e w' ⟨rfl, rfl⟩) | (at_builtin; refine wpList_cat elemB rfl _ _ rfl rfl rfl (hown.alloc _) (Ints.new .u8 wr 5 [_, _, _, _]) rfl (fun h => by cases h) (by simp; omega) (by omega) ?_; intro v' w2 hown2))
    go_ret
    exact ⟨_, rfl, by rw [E.out]; exact hown2⟩

set_option maxHeartbeats 1000000 in
theorem ubytes_any (a : Option Addr) (len cap : Nat) (zs : List Int) (w : World) (h : Ints .i32 w a zs) (hl : zs.length = len) (hlen : len ≤ 200) :
    Calls Tryz.prog 69 #[.slice a len cap] w (Made 5 .u8 w (encA zs)) := by
  have HL := hide hl
  clear hl
  go_enter Tryz.func69, Tryz.ntmps69
  go_wp2
  go_loopw [3, 5, 8] (fun v _ i wr => ∃ k : Nat, k ≤ len ∧ i = .int .i64 k ∧ Own 5 .u8 w.heap.size w wr v (encA (zs.take k)))
    (fun _ _ i _ => len - (intOf i).toNat)
  case atStart => exact ⟨0, Nat.zero_le _, rfl, Own.start (Nat.le_refl _)⟩
  case round =>
    obtain ⟨k, hk, rfl, hown⟩ := hrel
    by_cases hlt : k < len
    · obtain ⟨b, off, rfl, hc, hb⟩ := h.at (i := k) (by rw [HL.out]; exact hlt)
      obtain ⟨r, hr⟩ : ∃ r, zs.getD k 0 = r := ⟨_, rfl⟩
      have hcx : wr.cell? ⟨b, off + k, none⟩ = some (.int .i32 r) := by rw [← hr]; exact (hown.bel.cell (by exact hb)).trans hc
      have hl1 := encA_len (zs.take k)
      have hl3 : (zs.take k).length ≤ k := List.length_take_le _ _
      have HT : Hid (encA (zs.take (k + 1)) = encA (zs.take k) ++ encS (fix r)) := by
        unfold Hid
        rw [List.take_succ_eq_append_getElem (by rw [HL.out]; exact hlt), encA_append, encA_one]
        rw [List.getD_eq_getElem?_getD, List.getElem?_eq_getElem (by rw [HL.out]; exact hlt)] at hr
        simp at hr
        rw [hr]
      clear hr hc
      by_cases hs : isSc r = true
      · have HF := hide (fix_of r hs)
        go_wp2_with fail
        refine (scalar_any r wr).mono ?_
        rintro e w1 ⟨rfl, rfl⟩
        rw [hs]
        have HS := hide hs
        clear hs
        go_wp2_with fail
        refine (uput_any r HS.out w.heap.size w wr _ _ hown (by omega)).mono ?_
        rintro e w1 ⟨v', rfl, hown1⟩
        go_wp2
        go_roundw
        case rel => exact ⟨k + 1, by omega, by go_num, by rw [HT.out, HF.out]; exact hown1⟩
        case measure => simp [intOf]; omega
      · have HF : Hid (fix r = 65533) := by unfold Hid fix; rw [if_neg hs]
        have hs' : isSc r = false := by simpa using hs
        clear hs
        go_wp2_with fail
        refine (scalar_any r wr).mono ?_
        rintro e w1 ⟨rfl, rfl⟩
        rw [hs']
        clear hs'
        go_wp2_with fail
        refine (uput_any 65533 (by decide) w.heap.size w wr _ _ hown (by omega)).mono ?_
        rintro e w1 ⟨v', rfl, hown1⟩
        go_wp2
        go_roundw
        case rel => exact ⟨k + 1, by omega, by go_num, by rw [HT.out, HF.out]; exact hown1⟩
        case measure => simp [intOf]; omega
    · go_wp2
      go_ret
      exact ⟨_, rfl, by rw [List.take_of_length_le (by rw [HL.out]; omega)] at hown; exact hown⟩
end Go.Proofs.YtkijclgbpbhglaaGreatDoor

namespace Go.Proofs.YtkijclgbpbhglaaGreatDoor
set_option maxRecDepth 100000
open Go.ChangeShapes Go.WideShapes Go.ChangeAt Go.RowKit
set_option linter.unusedVariables false

def textTo (cs : List Cel) (k : Nat) : List Int := (cs.take k).flatMap (fun c => encA (runesC c))
def textC (cs : List Cel) : List Int := cs.flatMap (fun c => encA (runesC c))
theorem text_all (cs : List Cel) (k : Nat) (h : cs.length ≤ k) : textTo cs k = textC cs := by unfold textTo textC; rw [List.take_of_length_le h]
theorem text_next (cs : List Cel) (k : Nat) (h : k < cs.length) : textTo cs (k + 1) = textTo cs k ++ encA (runesC (cAt cs k)) := by
  unfold textTo; rw [take_cAt cs k h]; simp
theorem text_len (cs : List Cel) (k : Nat) : (textTo cs k).length ≤ 12 * k := by
  unfold textTo
  have h : ∀ l : List Cel, (l.flatMap (fun c => encA (runesC c))).length ≤ 12 * l.length := by
    intro l
    induction l with
    | nil => simp
    | cons c l ih =>
      have h1 := encA_len (runesC c)
      have h2 := runes_len c
      simp only [List.flatMap_cons, List.length_append, List.length_cons]
      omega
  have := h (cs.take k)
  rw [List.length_take] at this
  omega
theorem text_byte (cs : List Cel) : Byte (textC cs) := by
  intro x hx
  obtain ⟨c, _, hc⟩ := List.mem_flatMap.1 hx
  exact encA_byte _ x hc
/-- The call answered with this string, and left all that was there. -/
def Str (s : ByteArray) (w : World) (e : Ending) (w' : World) : Prop := e = .returned (.string s) ∧ Below w.heap.size w w'
set_option maxRecDepth 100000 in
set_option maxHeartbeats 2000000 in
theorem text_any (A : Option Addr) (n c : Nat) (cs : List Cel) (w : World) (h : Cels .i32 w A cs) (hn : cs.length = n) (hl : n ≤ 1000) : Calls Tryz.prog 36 #[.slice A n c] w (Str (strOf (textC cs)) w) := by
  have HC := hide h
  have HN := hide hn
  clear h hn
  go_enter Tryz.func36, Tryz.ntmps36
  go_wp2
  go_loopw [3, 5, 8] (fun v _ i wr => ∃ k : Nat, k ≤ n ∧ i = .int .i64 k ∧ Own 5 .u8 w.heap.size w wr v (textTo cs k)) (fun _ _ i _ => n - (intOf i).toNat)
  case atStart => exact ⟨0, Nat.zero_le _, rfl, Own.start (Nat.le_refl _)⟩
  case round =>
    obtain ⟨k, hk, rfl, hown⟩ := hrel
    have HV := hide hown
    clear hown
    by_cases hlt : k < n
    · obtain ⟨b1, o1, rfl, l1, -⟩ := HC.out.at (i := k) (by rw [HN.out]; exact hlt)
      have HT := hide (text_next cs k (by rw [HN.out]; exact hlt))
      have HTL := hide (text_len cs k)
      obtain ⟨⟨r, x, y, z, ⟨f, g, b⟩⟩, hc⟩ : ∃ q, cAt cs k = q := ⟨_, rfl⟩
      obtain ⟨a0, a1, a2, a3, a4, a5, a6, -⟩ := (HC.out.below HV.out.bel).sevenC k (by rw [HN.out]; exact hlt) hc
      rw [hc] at HT
      clear hc
      obtain ⟨Z, hZ⟩ : ∃ Z, runesC ⟨r, x, y, z, ⟨f, g, b⟩⟩ = Z := ⟨_, rfl⟩
      have hzl : Z.length ≤ 3 := by rw [← hZ]; exact runes_len _
      rw [hZ] at HT
      have HZ := hide hZ
      clear hZ
      obtain ⟨W1, hW1⟩ : ∃ W1, wr.alloc (.cells #[.int .i32 r, .int .i32 x, .int .i32 y, .int .u8 (z : Int), .int .u8 (f : Int), .int .u8 (g : Int), .int .u8 (b : Int)] 73) = W1 := ⟨_, rfl⟩
      have HV1 : Hid (Own 5 .u8 w.heap.size w W1 u3 (textTo cs k)) := by unfold Hid; rw [← hW1]; exact HV.out.alloc _
      have HW1 := hide hW1
      clear hW1
      go_wp2_with fail
      rw [HW1.out]
      refine (runes_any r x y z f g b W1).mono ?_
      rintro e w2 ⟨v2, rfl, ho2⟩
      rw [HZ.out] at ho2
      obtain ⟨A2, c2, rfl, hi2, -⟩ := ho2.form2
      have HI2 := hide hi2
      have HV2 := hide (HV1.out.later ho2.bel)
      clear ho2 hi2 a0 a1 a2 a3 a4 a5 a6
      go_wp2_with fail
      refine (ubytes_any A2 Z.length c2 Z w2 HI2.out rfl (by omega)).mono ?_
      rintro e w3 ⟨v3, rfl, ho3⟩
      have hel := encA_len Z
      obtain ⟨Y, hY⟩ : ∃ Y, encA Z = Y := ⟨_, rfl⟩
      rw [hY] at ho3 HT hel
      obtain ⟨A3, c3, rfl, hi3, -, hz3, -⟩ := ho3.form2
      have HI3 := hide hi3
      have HZ3 := hide hz3
      have HV3 := hide (HV2.out.later ho3.bel)
      clear ho3 hi3 hz3 hY
      go_wp2_with (at_builtin; refine stopw ?_)
      unfold Hid
      refine wpList_cat elemB rfl _ _ rfl rfl rfl HV3.out HI3.out rfl HZ3.out (by have := HTL.out; omega) (by omega) ?_
      intro v' wn hn1
      rw [← HT.out] at hn1
      have HV' := hide hn1
      clear hn1
      go_wp2
      go_roundw
      case rel => exact ⟨k + 1, by omega, by go_num, HV'.out⟩
      case measure => simp [intOf]; omega
    · obtain ⟨A3, c3, hv, hi3, -⟩ := HV.out.form2
      rw [text_all cs k (by rw [HN.out]; omega)] at hi3 hv
      subst hv
      have hrun := run_strOf (P := Tryz.prog) wr 34 9 5 Tryz.underlying34 Tryz.underlying5 Tryz.underlying9 A3 c3 (textC cs) hi3 (text_byte cs)
      obtain ⟨S, hS⟩ : ∃ S, strOf (textC cs) = S := ⟨_, rfl⟩
      rw [hS] at hrun
      have HS := hide hS
      have HBL := hide HV.out.bel
      clear hS hi3 HV
      generalize (textC cs).length = N at hrun
      go_wp2
      go_ret
      exact ⟨by rw [HS.out]; rfl, HBL.out⟩
end Go.Proofs.YtkijclgbpbhglaaGreatDoor

namespace Go.Proofs.YtkijclgbpbhglaaGreatDoor
set_option maxRecDepth 100000
open Go.ChangeShapes Go.WideShapes Go.ChangeAt Go.RowKit
set_option linter.unusedVariables false

def sizeB (r c : Int) : Bool := decide (sizeN r c)
theorem rsize_any (r c : Int) (w : World) : Calls Tryz.prog 10 #[.int .i64 r, .int .i64 c] w fun e w' => e = .returned (.bool (sizeB r c)) ∧ w = w' := by
  by_cases h : sizeN r c
  · have HD : Hid (sizeB r c = true) := by unfold Hid sizeB; simpa using h
    obtain ⟨⟨h1, h2⟩, h3, h4⟩ := h
    go_enter Tryz.func10, Tryz.ntmps10
    go_wp2
    go_ret
    exact ⟨ret_bool HD.out.symm, rfl⟩
  · have HD : Hid (sizeB r c = false) := by unfold Hid sizeB; simpa using h
    have HN := hide h
    clear h
    by_cases h1 : 1 ≤ r
    · by_cases h2 : r ≤ 512
      · by_cases h3 : 1 ≤ c
        · have h4 : ¬ c ≤ 512 := fun q => HN.out ⟨⟨h1, h2⟩, h3, q⟩
          go_enter Tryz.func10, Tryz.ntmps10
          go_wp2
          go_ret
          exact ⟨ret_bool HD.out.symm, rfl⟩
        · go_enter Tryz.func10, Tryz.ntmps10
          go_wp2
          go_ret
          exact ⟨ret_bool HD.out.symm, rfl⟩
      · go_enter Tryz.func10, Tryz.ntmps10
        go_wp2
        go_ret
        exact ⟨ret_bool HD.out.symm, rfl⟩
    · go_enter Tryz.func10, Tryz.ntmps10
      go_wp2
      go_ret
      exact ⟨ret_bool HD.out.symm, rfl⟩
theorem new1W (w : World) (o : Obj) : Below w.heap.size w (w.alloc o) := (Below.refl _ _).alloc (Nat.le_refl _) _
end Go.Proofs.YtkijclgbpbhglaaGreatDoor

namespace Go.Proofs.YtkijclgbpbhglaaGreatDoor
set_option maxRecDepth 100000
open Go.ChangeShapes Go.WideShapes Go.ChangeAt Go.RowKit
set_option linter.unusedVariables false

set_option maxHeartbeats 4000000 in
theorem eknown_any (w : World) (hS : Spans w) : Calls Tryz.prog 11 #[] w (Said true w) := by
  have HNEW : Hid (Calls Tryz.prog 9 #[.int .i64 2, .int .i64 3] w fun x w' => ∃ b L, x = .returned (.tuple #[.pointer (some ⟨b.E, 0, none⟩), .int .i64 0]) ∧ MadeE 2 3 (newE 2 3) w b L w') := enew_yes 2 3 (by omega) (by omega) (by omega) (by omega) w hS
  have HT0 : Hid (strOf (textC (lAt kE.g.ls 0)) = ⟨#[97, 98, 99]⟩) := by unfold Hid; rw [kE_0]; decide +kernel
  have HT1 : Hid (strOf (textC (lAt kE.g.ls 1)) = ⟨#[100, 32, 32]⟩) := by unfold Hid; rw [kE_1]; decide +kernel
  have s0 : ∀ w : World, (binOp .eql 9 (.string ⟨#[97, 98, 99]⟩) (.string ⟨#[97, 98, 99]⟩)).run Tryz.prog w = .ok (.bool true) w := fun _ => by kernel_rfl
  have s1 : ∀ w : World, (binOp .eql 9 (.string ⟨#[100, 32, 32]⟩) (.string ⟨#[100, 32, 32]⟩)).run Tryz.prog w = .ok (.bool true) w := fun _ => by kernel_rfl
  have kc := fun (w : World) (C : Array Value) (n c : Nat) => Lib.run_convert_bytes_const (P := Tryz.prog) w 34 5 C n c Tryz.underlying34 Tryz.underlying5
  clear hS
  go_enter Tryz.func11, Tryz.ntmps11
  go_wp2_with fail
  refine HNEW.out.mono ?_
  rintro x w1 ⟨b, L, rfl, hm⟩
  obtain ⟨hE, hB, hL⟩ := hm
  obtain ⟨q, hq⟩ : ∃ q, w1.heap.size = q := ⟨_, rfl⟩
  obtain ⟨W0, hW0⟩ : ∃ W0, w1.alloc (.cells #[.int .u8 97, .int .u8 98, .int .u8 99, .int .u8 100] 5 (4, 5)) = W0 := ⟨_, rfl⟩
  have hb0 : Below w1.heap.size w1 W0 := by rw [← hW0]; exact new1W _ _
  have HI : Hid (Ints .u8 W0 (some ⟨q, 0, none⟩) [97, 98, 99, 100]) := by unfold Hid; rw [← hW0, ← hq]; exact Ints.newF .u8 w1 5 (4, 5) [97, 98, 99, 100]
  have HNQ : Hid (q ∉ b.l L) := by unfold Hid; intro hx; have := hE.lt _ hx; omega
  have HE0 := hide (hE.later hb0)
  have HB0 := hide (hB.trans (hb0.mono hB.size))
  have hlw : Low w.heap.size b L := hL
  have HLW := hide hlw
  have HW0 := hide hW0
  have HQ := hide hq
  clear hE hB hL hb0 hW0 hq hlw
  go_wp2_with fail
  rw [HW0.out, HQ.out]
  refine (efeed_new HE0.out q 0 4 4 [97, 98, 99, 100] HI.out HNQ.out rfl (by intro x hx; simp at hx; omega) (by omega)).mono ?_
  rintro x w2 ⟨rfl, L2, ha⟩
  rw [kE_feed] at ha
  have HB2 : Hid (Below w.heap.size w w2) := ha.ch.below HB0.out HB0.out.size HLW.out
  have HE2 := hide ha.emu
  clear ha HE0
  go_wp2_with fail
  refine (egrid_any HE2.out).mono ?_
  rintro x w3 ⟨G, L3, M, rfl, hg, hb, -⟩
  have HG : Hid (Grd w3 G L3 M 2 3 kE.g) := hg
  have HB3 := hide (HB2.out.trans (hb.mono HB2.out.size))
  clear hg hb
  go_wp2_with fail
  refine (gline_any HG.out 0 (by unfold hasG; omega) (by omega)).mono ?_
  rintro x w4 ⟨v4, rfl, ho4⟩
  obtain ⟨A4, c4, rfl, hc4, -, -, -⟩ := ho4.form
  have HC4 : Hid (Cels .i32 w4 A4 (lAt kE.g.ls 0)) := hc4
  have HB4 : Hid (Below w.heap.size w w4) := HB3.out.trans (ho4.bel.mono HB3.out.size)
  have HG4 := hide (HG.out.later ho4.bel)
  clear hc4 ho4
  rw [show (lAt kE.g.ls (0 : Int).toNat).length = 3 by rw [show ((0 : Int).toNat) = 0 from rfl, kE_0]; rfl]
  go_wp2_with fail
  refine (text_any A4 3 c4 (lAt kE.g.ls 0) _ HC4.out (by rw [kE_0]; rfl) (by omega)).mono ?_
  rintro x w5 ⟨rfl, hb⟩
  rw [HT0.out]
  have HB4b : Hid (Below w.heap.size w w5) := HB4.out.trans (hb.mono HB4.out.size)
  have HG4b := hide (HG4.out.later hb)
  clear hb
  go_wp2_with fail
  refine (gline_any HG4b.out 1 (by unfold hasG; omega) (by omega)).mono ?_
  rintro x w6 ⟨v6, rfl, ho6⟩
  obtain ⟨A6, c6, rfl, hc6, -, -, -⟩ := ho6.form
  have HC6 : Hid (Cels .i32 w6 A6 (lAt kE.g.ls 1)) := hc6
  have HB6 : Hid (Below w.heap.size w w6) := HB4b.out.trans (ho6.bel.mono HB4b.out.size)
  have HG6 := hide (HG4b.out.later ho6.bel)
  clear hc6 ho6
  rw [show (lAt kE.g.ls (1 : Int).toNat).length = 3 by rw [show ((1 : Int).toNat) = 1 from rfl, kE_1]; rfl]
  go_wp2_with fail
  refine (text_any A6 3 c6 (lAt kE.g.ls 1) _ HC6.out (by rw [kE_1]; rfl) (by omega)).mono ?_
  rintro x w7 ⟨rfl, hb⟩
  rw [HT1.out]
  have HB6b : Hid (Below w.heap.size w w7) := HB6.out.trans (hb.mono HB6.out.size)
  have HG6b := hide (HG6.out.later hb)
  clear hb
  go_wp2_with fail
  refine (row_any HG6b.out).mono ?_
  rintro x w8 ⟨rfl, rfl⟩
  rw [kE_row]
  go_wp2_with fail
  refine (col_any HG6b.out).mono ?_
  rintro x w8 ⟨rfl, rfl⟩
  rw [kE_col]
  go_wp2
  go_ret
  exact ⟨rfl, HB6b.out⟩
end Go.Proofs.YtkijclgbpbhglaaGreatDoor

namespace Go.Proofs.YtkijclgbpbhglaaGreatDoor
set_option maxRecDepth 100000
open Go.ChangeShapes Go.WideShapes Go.ChangeAt Go.RowKit
set_option linter.unusedVariables false

set_option maxHeartbeats 4000000 in
theorem emuNil_walk (A : Option Addr) (len cap : Nat) (bs : List Int) (r c : Int) (w : World) (hi : IsRow .u8 w A len cap bs) (hr : (Lit.int .i64 r).wf = true) (hc : (Lit.int .i64 c).wf = true) (hS : Spans w) :
    Calls Tryz.prog 6 #[.slice A len cap, .int .i64 r, .int .i64 c] w fun e w' => e = .returned (.bool true) ∧ Below w.heap.size w w' := by
  have HS := hide hS
  clear hS hi hr hc
  have hpe : ∀ w : World, (binOp .eql 65 (.agg #[.int .u8 (0 : Int), .int .u8 (0 : Int), .int .u8 (0 : Int)]) (.agg #[.int .u8 (0 : Int), .int .u8 (0 : Int), .int .u8 (0 : Int)])).run Tryz.prog w = .ok (.bool true) w := fun w => by have := eql65 0 0 0 0 0 0 w; rw [pn_eqP_self] at this; exact this
  go_enter Tryz.func6, Tryz.ntmps6
  go_wp2_with fail
  refine (efeed_nil _ w).mono ?_
  rintro x w1 ⟨rfl, rfl⟩
  obtain ⟨W0, hW0⟩ : ∃ W0, w.alloc (.cells #[.int .i64 1, .int .i32 97, .slice none 0 0] 56) = W0 := ⟨_, rfl⟩
  have HB0 : Hid (Below w.heap.size w W0) := by unfold Hid; rw [← hW0]; exact new1W _ _
  have HW0 := hide hW0
  clear hW0
  go_wp2_with fail
  rw [HW0.out]
  refine (edo_nil _ W0).mono ?_
  rintro x w1 ⟨rfl, rfl⟩
  go_wp2_with fail
  refine (eknown_any W0 (HS.out.below HB0.out)).mono ?_
  rintro x w1 ⟨rfl, hb⟩
  have HB1 := hide (HB0.out.trans (hb.mono HB0.out.size))
  clear hb
  go_wp2_with fail
  refine (egrid_nil w1).mono ?_
  rintro x w2 ⟨rfl, rfl⟩
  go_wp2_with fail
  refine (epen_nil w1).mono ?_
  rintro x w2 ⟨rfl, hb⟩
  have HB2 := hide (HB1.out.trans (hb.mono HB1.out.size))
  clear hb
  simp only [zeroP]
  go_wp2_with fail
  refine (ewrap_nil w2).mono ?_
  rintro x w3 ⟨rfl, rfl⟩
  go_wp2_with fail
  refine (erest_nil w2).mono ?_
  rintro x w3 ⟨rfl, rfl⟩
  go_wp2_with fail
  refine (eresize_nil r c w2).mono ?_
  rintro x w3 ⟨rfl, rfl⟩
  go_wp2_with fail
  refine (ecopy_nil w2).mono ?_
  rintro x w3 ⟨rfl, rfl⟩
  go_wp2
  go_ret
  exact ⟨rfl, HB2.out⟩
end Go.Proofs.YtkijclgbpbhglaaGreatDoor

namespace Go.Proofs.YtkijclgbpbhglaaGreatDoor
set_option maxRecDepth 100000
open Go.ChangeShapes Go.WideShapes Go.ChangeAt Go.RowKit
set_option linter.unusedVariables false

def smallE (n : Int) : Int := if 20 < n ∧ n ≤ 512 then 20 else n
theorem esmall_any (n : Int) (w : World) : Calls Tryz.prog 8 #[.int .i64 n] w fun e w' => e = .returned (.int .i64 (smallE n)) ∧ w = w' := by
  by_cases h1 : 20 < n
  · by_cases h2 : n ≤ 512
    · have HS : Hid (smallE n = 20) := by unfold Hid smallE; rw [if_pos ⟨h1, h2⟩]
      go_enter Tryz.func8, Tryz.ntmps8
      go_wp2
      go_ret
      exact ⟨by rw [HS.out]; rfl, rfl⟩
    · have HS : Hid (smallE n = n) := by unfold Hid smallE; rw [if_neg (fun q => h2 q.2)]
      go_enter Tryz.func8, Tryz.ntmps8
      go_wp2
      go_ret
      exact ⟨by rw [HS.out]; rfl, rfl⟩
  · have HS : Hid (smallE n = n) := by unfold Hid smallE; rw [if_neg (fun q => h1 q.1)]
    go_enter Tryz.func8, Tryz.ntmps8
    go_wp2
    go_ret
    exact ⟨by rw [HS.out]; rfl, rfl⟩
theorem sizeE {r c : Int} (h : sizeN r c) : ∃ R C : Nat, r = (R : Int) ∧ c = (C : Int) ∧ 1 ≤ R ∧ R ≤ 512 ∧ 1 ≤ C ∧ C ≤ 512 := by
  obtain ⟨⟨h1, h2⟩, h3, h4⟩ := h
  exact ⟨r.toNat, c.toNat, by omega, by omega, by omega, by omega, by omega, by omega⟩
/-- Two emulators, all made since w0, that share nothing. -/
structure Two (w0 w : World) (b1 : Bl) (L1 : Nat) (b2 : Bl) (L2 R C : Nat) (e1 e2 : Em) : Prop where
  e : Emu w b1 L1 R C e1
  d : Emu w b2 L2 R C e2
  ap : ∀ x ∈ b2.l L2, x ∉ b1.l L1
  l1 : Low w0.heap.size b1 L1
  l2 : Low w0.heap.size b2 L2
  bel : Below w0.heap.size w0 w
  pos : 0 < w0.heap.size
section
variable {w0 w w' : World} {b1 b2 : Bl} {L1 L2 L R C : Nat} {e1 e2 e' : Em}
theorem Two.later (h : Two w0 w b1 L1 b2 L2 R C e1 e2) (hb : Below w.heap.size w w') : Two w0 w' b1 L1 b2 L2 R C e1 e2 := ⟨h.e.later hb, h.d.later hb, h.ap, h.l1, h.l2, h.bel.trans (hb.mono h.bel.size), h.pos⟩
theorem Two.first (h : Two w0 w b1 L1 b2 L2 R C e1 e2) (k : At b1 w L1 w' L R C e') : Two w0 w' b1 L b2 L2 R C e' e2 :=
  ⟨k.emu, h.d.far k.ch h.ap h.e.no0, fun x hx hy => by
    rcases near_mem k.near x hy with q | q
    · exact h.ap x hx q
    · have := h.d.lt x hx; omega, h.l1.at k h.bel.size, h.l2, k.ch.below h.bel h.bel.size h.l1, h.pos⟩
theorem Two.second (h : Two w0 w b1 L1 b2 L2 R C e1 e2) (k : At b2 w L2 w' L R C e') : Two w0 w' b1 L1 b2 L R C e1 e' :=
  ⟨h.e.far k.ch (fun x hx hy => h.ap x hy hx) h.d.no0, k.emu, fun x hx hy => by
    rcases near_mem k.near x hx with q | q
    · exact h.ap x q hy
    · have := h.e.lt x hy; omega, h.l1, h.l2.at k h.bel.size, k.ch.below h.bel h.bel.size h.l2, h.pos⟩
/-- A second one, made now. -/
theorem Two.made (h1 : Emu w b1 L1 R C e1) (hl : Low w0.heap.size b1 L1) (hb : Below w0.heap.size w0 w) (hp : 0 < w0.heap.size) (k : MadeE R C e2 w b2 L2 w') : Two w0 w' b1 L1 b2 L2 R C e1 e2 :=
  ⟨h1.later k.2.1, k.1, fun x hx hy => by have := h1.lt x hy; have := k.2.2 x hx; omega, hl, k.2.2.mono hb.size, hb.trans (k.2.1.mono hb.size), hp⟩
end
theorem feed_all (e : Em) (C : Nat) (xs : List Int) (j : Nat) : feedE (feedE e C (xs.take j)) C (xs.drop j) = feedE e C xs := by rw [← feedE_append, List.take_append_drop]
theorem feed_more (e : Em) (C : Nat) (xs : List Int) (j R : Nat) : feedE (feedE e C (xs.take j)) C ((xs.drop j).take R) = feedE e C (xs.take (j + R)) := by rw [← feedE_append, ← List.take_add]
end Go.Proofs.YtkijclgbpbhglaaGreatDoor

namespace Go.Proofs.YtkijclgbpbhglaaGreatDoor
set_option maxRecDepth 100000
open Go.ChangeShapes Go.WideShapes Go.ChangeAt Go.RowKit
set_option linter.unusedVariables false

/-- What holds at the head of each round. -/
def ECut (w : World) (xs : List Int) (n : Nat) (b1 b2 : Bl) (R C : Nat) (r i : Value) (wr : World) : Prop :=
  ∃ (k j c2 : Nat) (A2 : Option Addr) (L1 L2 : Nat), i = .int .i64 k ∧ k ≤ 20 ∧ j ≤ n ∧ r = .slice A2 (n - j) c2 ∧ Ints .u8 w A2 (xs.drop j) ∧ n - j ≤ c2 ∧ c2 ≤ 9223372036854775807 ∧ (A2 = none → c2 = 0) ∧
    Two w wr b1 L1 b2 L2 R C (feedE (newE R C) C (xs.take j)) (newE R C)
set_option maxHeartbeats 4000000 in
theorem emuCuts_walk (rows cols : Int) (a : Option Addr) (len cap : Nat) (zs : List Int) (a1 : Option Addr) (len1 cap1 : Nat) (zs1 : List Int) (w : World)
    (hr : (Lit.int .i64 rows).wf = true) (hc : (Lit.int .i64 cols).wf = true) (hrow : IsRow .u8 w a len cap zs) (hrow1 : IsRow .i64 w a1 len1 cap1 zs1) (hS : Spans w) :
    Calls Tryz.prog 5 #[.int .i64 rows, .int .i64 cols, .slice a len cap, .slice a1 len1 cap1] w fun e w' => e = .returned (.bool true) ∧ Below w.heap.size w w' := by
  obtain ⟨hz, hl, hn0, hmaxl⟩ := hrow.len
  obtain ⟨hz1, hl1, hn1, hmaxl1⟩ := hrow1.len
  obtain ⟨n, hn, hn60, hnl⟩ : ∃ n : Nat, min (len : Int) 200 = (n : Int) ∧ n ≤ 200 ∧ n ≤ len := ⟨min len 200, by omega, by omega, by omega⟩
  have hi := hrow.ints.take n
  have hi1 := hrow1.ints
  have hwf1 := hrow1.wf
  have hy : Byte (zs.take n) := byte_of hrow.wf n
  have hx : (zs.take n).length = n := by rw [List.length_take]; omega
  have hmax := hmaxl
  have hmax1 := hmaxl1
  unfold maxLen at hmax hmax1
  clear hrow hrow1 hr hc
  have HX := hide hx
  have HN0 := hide hn0
  have HZ1 := hide hz1
  have HWF := hide hwf1
  have HS := hide hS
  have hncap : n ≤ cap := by omega
  clear hz hn0 hx hz1 hn1 hwf1 hS
  generalize zs.take n = xs at *
  have HY := hide hy
  have HI0 := hide hi
  have n0 : (0 : Int) ≤ (n : Int) := by omega
  have n1 : (n : Int) ≤ (cap : Int) := by omega
  clear hy
  obtain ⟨sr, hsr⟩ : ∃ sr, smallE rows = sr := ⟨_, rfl⟩
  obtain ⟨sc, hsc⟩ : ∃ sc, smallE cols = sc := ⟨_, rfl⟩
  have HSR := hide hsr
  have HSC := hide hsc
  clear hsr hsc
  by_cases hs : sizeN sr sc
  · obtain ⟨R, C, rfl, rfl, q1, q2, q3, q4⟩ := sizeE hs
    clear hs
    go_enter Tryz.func5, Tryz.ntmps5
    go_wp2_with fail
    refine (esmall_any rows w).mono ?_
    rintro e w1 ⟨rfl, rfl⟩
    rw [HSR.out]
    go_wp2_with fail
    refine (esmall_any cols w).mono ?_
    rintro e w1 ⟨rfl, rfl⟩
    rw [HSC.out]
    go_wp2_with fail
    refine (enew_yes R C q1 q2 q3 q4 w HS.out).mono ?_
    rintro e w1 ⟨b1, L1, rfl, hm1⟩
    have HM1 := hide hm1
    clear hm1
    go_wp2_with fail
    refine (enew_yes R C q1 q2 q3 q4 w1 (HS.out.below HM1.out.2.1)).mono ?_
    rintro e w2 ⟨b2, L2, rfl, hm2⟩
    have HT0 : Hid (Two w w2 b1 L1 b2 L2 R C (newE R C) (newE R C)) := Two.made HM1.out.1 HM1.out.2.2 HM1.out.2.1 HS.out.size hm2
    clear hm2
    go_wp2
    go_loopw [13, 14, 15] (fun r i _ wr => ECut w xs n b1 b2 R C r i wr) (fun _ i _ _ => 20 - (intOf i).toNat)
    case atStart => exact ⟨0, 0, cap, a, L1, L2, rfl, by omega, Nat.zero_le _, rfl, HI0.out, by omega, by omega, HN0.out, HT0.out⟩
    case round =>
      obtain ⟨k, j, c2, A2, M1, M2, rfl, hk, hj, rfl, hi2, hc2, hc2m, hA2, ht⟩ := hrel
      have HA2 := hide hA2
      obtain ⟨M, hM⟩ : ∃ M, n - j = M := ⟨_, rfl⟩
      rw [hM] at hc2 ⊢
      have hMn : M ≤ 200 := by omega
      have hjM : j + M = n := by omega
      have HDL : Hid ((xs.drop j).length = M) := by unfold Hid; rw [List.length_drop, HX.out]; exact hM
      have HJM := hide hjM
      have HT := hide ht
      have HI2 := hide hi2
      clear hA2 hM hjM ht hi2
      by_cases h1 : k < len1
      · by_cases h2 : k < 20
        · have h2' : (k : Int) < 20 := by omega
          obtain ⟨bb, off, rfl, hc, hb0⟩ := hi1.at (i := k) (by rw [HZ1.out]; omega)
          obtain ⟨cv, hcv⟩ : ∃ cv, zs1.getD k 0 = cv := ⟨_, rfl⟩
          rw [hcv, ← HT.out.bel.cell (p := ⟨bb, off + k, none⟩) hb0] at hc
          have hcb : -9223372036854775808 ≤ cv ∧ cv ≤ 9223372036854775807 := by
            have := i64_bd (HWF.out cv (by rw [← hcv, List.getD_eq_getElem?_getD, List.getElem?_eq_getElem (by rw [HZ1.out]; omega)]; exact List.getElem_mem _))
            omega
          obtain ⟨hcb1, hcb2⟩ := hcb
          clear hcv
          obtain ⟨CC, hCC⟩ : ∃ CC : Int, CC = IntKind.u64.wrap cv := ⟨_, rfl⟩
          have hC0 : 0 ≤ CC := by rw [hCC, IntKind.wrap_u64]; omega
          have hC' := hCC.symm
          clear hCC
          obtain ⟨Rr, hR, hRL⟩ : ∃ Rr : Nat, CC.tmod ((M + 1 : Nat) : Int) = (Rr : Int) ∧ Rr ≤ M := by
            refine ⟨(CC.tmod ((M + 1 : Nat) : Int)).toNat, ?_, ?_⟩
            · have := Int.tmod_nonneg ((M + 1 : Nat) : Int) hC0; omega
            · have h1 := Int.tmod_lt_of_pos CC (show (0 : Int) < ((M + 1 : Nat) : Int) by omega); have := Int.tmod_nonneg ((M + 1 : Nat) : Int) hC0; omega
          have HR := hide hR
          have r0 : (0 : Int) ≤ (Rr : Int) := by omega
          have r1 : (Rr : Int) ≤ (M : Int) := by omega
          have r2 : (Rr : Int) ≤ (c2 : Int) := by omega
          clear hR hcb1 hcb2
          go_wp2_with (with_reducible refine wpList_val (o := ⟨some 78, _, _, _, _, _⟩) rfl (v := .int .u64 (Rr : Int)) ?_ ?_)
          · exact exec_binop (v2 := .int .u64 ((M + 1 : Nat) : Int)) rfl rfl rfl rfl (run_rem_nat (P := Tryz.prog) wr 63 .u64 CC (M + 1) Rr (by omega) HR.out)
          · have hBL : ((xs.drop j).take Rr).length = Rr := by rw [List.length_take, HDL.out]; omega
            have hi2r := HI2.out.take Rr
            have HNX := hide (feed_more (newE R C) C xs j Rr)
            clear hC' hC0 hc
            refine (efeed_gen HT.out.e A2 Rr c2 ((xs.drop j).take Rr) (fun w2 hc => Ints.below hi2r (hc.below HT.out.bel HT.out.bel.size HT.out.l1)) hBL ((HY.out.drop j).take Rr) (by omega)).mono ?_
            rintro e y1 ⟨rfl, N1, ha⟩
            rw [HNX.out] at ha
            have HT1 := hide (HT.out.first ha)
            obtain ⟨A3, hI, hI2, hI3⟩ : ∃ A3, (if c2 = Rr then A2 else Option.map (fun x => x.add Rr) A2) = A3 ∧ Ints .u8 w A3 (xs.drop (j + Rr)) ∧ (A3 = none → c2 - Rr = 0) := ⟨_, rfl, by
              have := HI2.out.cut Rr c2 (by rw [HDL.out]; exact hc2)
              rw [List.drop_drop] at this; exact this, cut_nil_ HA2.out⟩
            have HI := hide hI
            have HI3 := hide hI3
            have HI2' := hide hI2
            obtain ⟨M3, hM3⟩ : ∃ M3, M - Rr = M3 := ⟨_, rfl⟩
            have HM3 := hide hM3
            clear hI hI2 hI3 hM3 hBL hi2r ha
            go_wp2_with (with_reducible refine wpList_val (o := ⟨some 87, _, _, _, _, _⟩) rfl (v := .slice A3 M3 (c2 - Rr)) ?_ ?_)
            · rw [← HI.out, ← HM3.out]
              go_simp
            · go_roundw
              case rel =>
                refine ⟨k + 1, j + Rr, c2 - Rr, A3, N1, M2, by go_num, by omega, by have := HJM.out; omega, ?_, HI2'.out, ?_, by omega, HI3.out, HT1.out⟩
                · have := HJM.out
                  have := HM3.out
                  rw [show n - (j + Rr) = M3 by omega]
                · have := HJM.out
                  omega
              case measure => simp [intOf]; omega
        · have h2' : decide ((k : Int) < 20) = false := by simp; omega
          have HFA := hide (feed_all (newE R C) C xs j)
          have hi2d := HI2.out
          go_wp2_with fail
          refine (efeed_gen HT.out.e A2 M c2 (xs.drop j) (fun w2 hc => Ints.below hi2d (hc.below HT.out.bel HT.out.bel.size HT.out.l1)) HDL.out (HY.out.drop j) (by omega)).mono ?_
          rintro e y1 ⟨rfl, N1, ha⟩
          rw [HFA.out] at ha
          have HT1 := hide (HT.out.first ha)
          clear ha hi2d
          go_wp2_with fail
          refine (efeed_gen HT1.out.d a n cap xs (fun w2 hc => Ints.below HI0.out (hc.below HT1.out.bel HT1.out.bel.size HT1.out.l2)) HX.out HY.out (by omega)).mono ?_
          rintro e y2 ⟨rfl, N2, ha⟩
          obtain ⟨ez, hez⟩ : ∃ ez, feedE (newE R C) C xs = ez := ⟨_, rfl⟩
          rw [hez] at ha HT1
          have HT2 := hide (HT1.out.second ha)
          clear ha HT1 hez
          have hpe : ∀ w : World, (binOp .eql 65 (.agg #[.int .u8 (ez.pen.f : Int), .int .u8 (ez.pen.g : Int), .int .u8 (ez.pen.b : Int)]) (.agg #[.int .u8 (ez.pen.f : Int), .int .u8 (ez.pen.g : Int), .int .u8 (ez.pen.b : Int)])).run Tryz.prog w = .ok (.bool true) w := fun w => by have := eql65 ez.pen.f ez.pen.g ez.pen.b ez.pen.f ez.pen.g ez.pen.b w; rw [pn_eqP_self] at this; exact this
          obtain ⟨br, hbr⟩ : ∃ br, restP ez.p = br := ⟨_, rfl⟩
          have HBR := hide hbr
          clear hbr
          go_wp2_with fail
          refine (eknown_any y2 HT2.out.e.sp).mono ?_
          rintro e y3 ⟨rfl, hb⟩
          have HT3 := hide (HT2.out.later hb)
          clear hb
          go_wp2_with fail
          refine (egrid_any HT3.out.e).mono ?_
          rintro e y4 ⟨G4, L4, O4, rfl, hg4, hb, -⟩
          have HT4 := hide (HT3.out.later hb)
          have HG4 := hide hg4
          clear hb hg4
          go_wp2_with fail
          refine (egrid_any HT4.out.d).mono ?_
          rintro e y5 ⟨G5, L5, O5, rfl, hg5, hb, -⟩
          have HT5 := hide (HT4.out.later hb)
          have HG5 := hide hg5
          have HG4b := hide (HG4.out.later hb)
          clear hb hg5
          go_wp2_with fail
          refine (gsame_any HG4b.out HG5.out q2 q2 q4).mono ?_
          rintro e y6 ⟨rfl, hb⟩
          rw [sameG_self]
          have HT6 := hide (HT5.out.later hb)
          clear hb
          go_wp2_with fail
          refine (epen_any HT6.out.e).mono ?_
          rintro e y7 ⟨rfl, hb⟩
          have HT7 := hide (HT6.out.later hb)
          clear hb
          go_wp2_with fail
          refine (epen_any HT7.out.d).mono ?_
          rintro e y8 ⟨rfl, hb⟩
          have HT8 := hide (HT7.out.later hb)
          clear hb
          go_wp2_with fail
          refine (ewrap_any HT8.out.e).mono ?_
          rintro e y9 ⟨rfl, rfl⟩
          go_wp2_with fail
          refine (ewrap_any HT8.out.d).mono ?_
          rintro e y9 ⟨rfl, rfl⟩
          go_wp2_with fail
          refine (erest_any HT8.out.e br HBR.out).mono ?_
          rintro e y9 ⟨rfl, hb⟩
          have HT9 := hide (HT8.out.later hb)
          clear hb
          go_wp2_with fail
          refine (erest_any HT9.out.d br HBR.out).mono ?_
          rintro e y10 ⟨rfl, hb⟩
          have HT10 := hide (HT9.out.later hb)
          clear hb
          go_wp2_with fail
          refine (egrid_any HT10.out.e).mono ?_
          rintro e y11 ⟨G6, L6, O6, rfl, hg6, hb, -⟩
          have HT11 := hide (HT10.out.later hb)
          have HG6 := hide hg6
          clear hb hg6
          go_wp2_with fail
          refine (rows_any HG6.out).mono ?_
          rintro e y12 ⟨rfl, rfl⟩
          go_wp2_with fail
          refine (egrid_any HT11.out.e).mono ?_
          rintro e y12 ⟨G7, L7, O7, rfl, hg7, hb, -⟩
          have HT12 := hide (HT11.out.later hb)
          have HG7 := hide hg7
          clear hb hg7
          go_wp2_with fail
          refine (cols_any HG7.out q1).mono ?_
          rintro e y13 ⟨rfl, rfl⟩
          go_wp2_with fail
          refine (egrid_any HT12.out.e).mono ?_
          rintro e y13 ⟨G8, L8, O8, rfl, hg8, hb, -⟩
          have HT13 := hide (HT12.out.later hb)
          have HG8 := hide hg8
          clear hb hg8
          go_wp2_with fail
          refine (gright_yes HG8.out HT13.out.e.ok.g HT13.out.e.sp).mono ?_
          rintro e y14 ⟨rfl, hb⟩
          have HB14 := hide (HT13.out.bel.trans (hb.mono HT13.out.bel.size))
          clear hb
          go_wp2
          go_ret
          exact ⟨rfl, HB14.out⟩
      · have h1' : decide ((k : Int) < (len1 : Int)) = false := by simp; omega
        have HFA := hide (feed_all (newE R C) C xs j)
        have hi2d := HI2.out
        go_wp2_with fail
        refine (efeed_gen HT.out.e A2 M c2 (xs.drop j) (fun w2 hc => Ints.below hi2d (hc.below HT.out.bel HT.out.bel.size HT.out.l1)) HDL.out (HY.out.drop j) (by omega)).mono ?_
        rintro e y1 ⟨rfl, N1, ha⟩
        rw [HFA.out] at ha
        have HT1 := hide (HT.out.first ha)
        clear ha hi2d
        go_wp2_with fail
        refine (efeed_gen HT1.out.d a n cap xs (fun w2 hc => Ints.below HI0.out (hc.below HT1.out.bel HT1.out.bel.size HT1.out.l2)) HX.out HY.out (by omega)).mono ?_
        rintro e y2 ⟨rfl, N2, ha⟩
        obtain ⟨ez, hez⟩ : ∃ ez, feedE (newE R C) C xs = ez := ⟨_, rfl⟩
        rw [hez] at ha HT1
        have HT2 := hide (HT1.out.second ha)
        clear ha HT1 hez
        have hpe : ∀ w : World, (binOp .eql 65 (.agg #[.int .u8 (ez.pen.f : Int), .int .u8 (ez.pen.g : Int), .int .u8 (ez.pen.b : Int)]) (.agg #[.int .u8 (ez.pen.f : Int), .int .u8 (ez.pen.g : Int), .int .u8 (ez.pen.b : Int)])).run Tryz.prog w = .ok (.bool true) w := fun w => by have := eql65 ez.pen.f ez.pen.g ez.pen.b ez.pen.f ez.pen.g ez.pen.b w; rw [pn_eqP_self] at this; exact this
        obtain ⟨br, hbr⟩ : ∃ br, restP ez.p = br := ⟨_, rfl⟩
        have HBR := hide hbr
        clear hbr
        go_wp2_with fail
        refine (eknown_any y2 HT2.out.e.sp).mono ?_
        rintro e y3 ⟨rfl, hb⟩
        have HT3 := hide (HT2.out.later hb)
        clear hb
        go_wp2_with fail
        refine (egrid_any HT3.out.e).mono ?_
        rintro e y4 ⟨G4, L4, O4, rfl, hg4, hb, -⟩
        have HT4 := hide (HT3.out.later hb)
        have HG4 := hide hg4
        clear hb hg4
        go_wp2_with fail
        refine (egrid_any HT4.out.d).mono ?_
        rintro e y5 ⟨G5, L5, O5, rfl, hg5, hb, -⟩
        have HT5 := hide (HT4.out.later hb)
        have HG5 := hide hg5
        have HG4b := hide (HG4.out.later hb)
        clear hb hg5
        go_wp2_with fail
        refine (gsame_any HG4b.out HG5.out q2 q2 q4).mono ?_
        rintro e y6 ⟨rfl, hb⟩
        rw [sameG_self]
        have HT6 := hide (HT5.out.later hb)
        clear hb
        go_wp2_with fail
        refine (epen_any HT6.out.e).mono ?_
        rintro e y7 ⟨rfl, hb⟩
        have HT7 := hide (HT6.out.later hb)
        clear hb
        go_wp2_with fail
        refine (epen_any HT7.out.d).mono ?_
        rintro e y8 ⟨rfl, hb⟩
        have HT8 := hide (HT7.out.later hb)
        clear hb
        go_wp2_with fail
        refine (ewrap_any HT8.out.e).mono ?_
        rintro e y9 ⟨rfl, rfl⟩
        go_wp2_with fail
        refine (ewrap_any HT8.out.d).mono ?_
        rintro e y9 ⟨rfl, rfl⟩
        go_wp2_with fail
        refine (erest_any HT8.out.e br HBR.out).mono ?_
        rintro e y9 ⟨rfl, hb⟩
        have HT9 := hide (HT8.out.later hb)
        clear hb
        go_wp2_with fail
        refine (erest_any HT9.out.d br HBR.out).mono ?_
        rintro e y10 ⟨rfl, hb⟩
        have HT10 := hide (HT9.out.later hb)
        clear hb
        go_wp2_with fail
        refine (egrid_any HT10.out.e).mono ?_
        rintro e y11 ⟨G6, L6, O6, rfl, hg6, hb, -⟩
        have HT11 := hide (HT10.out.later hb)
        have HG6 := hide hg6
        clear hb hg6
        go_wp2_with fail
        refine (rows_any HG6.out).mono ?_
        rintro e y12 ⟨rfl, rfl⟩
        go_wp2_with fail
        refine (egrid_any HT11.out.e).mono ?_
        rintro e y12 ⟨G7, L7, O7, rfl, hg7, hb, -⟩
        have HT12 := hide (HT11.out.later hb)
        have HG7 := hide hg7
        clear hb hg7
        go_wp2_with fail
        refine (cols_any HG7.out q1).mono ?_
        rintro e y13 ⟨rfl, rfl⟩
        go_wp2_with fail
        refine (egrid_any HT12.out.e).mono ?_
        rintro e y13 ⟨G8, L8, O8, rfl, hg8, hb, -⟩
        have HT13 := hide (HT12.out.later hb)
        have HG8 := hide hg8
        clear hb hg8
        go_wp2_with fail
        refine (gright_yes HG8.out HT13.out.e.ok.g HT13.out.e.sp).mono ?_
        rintro e y14 ⟨rfl, hb⟩
        have HB14 := hide (HT13.out.bel.trans (hb.mono HT13.out.bel.size))
        clear hb
        go_wp2
        go_ret
        exact ⟨rfl, HB14.out⟩
  · have HSZ : Hid (sizeB sr sc = false) := by unfold Hid sizeB; simpa using hs
    go_enter Tryz.func5, Tryz.ntmps5
    go_wp2_with fail
    refine (esmall_any rows w).mono ?_
    rintro e w1 ⟨rfl, rfl⟩
    rw [HSR.out]
    go_wp2_with fail
    refine (esmall_any cols w).mono ?_
    rintro e w1 ⟨rfl, rfl⟩
    rw [HSC.out]
    go_wp2_with fail
    refine (enew_no sr sc hs w).mono ?_
    rintro e w1 ⟨rfl, rfl⟩
    go_wp2_with fail
    refine (enew_no sr sc hs w).mono ?_
    rintro e w1 ⟨rfl, rfl⟩
    go_wp2_with fail
    refine (eknown_any w HS.out).mono ?_
    rintro e w1 ⟨rfl, hb⟩
    have HB1 := hide hb
    clear hb
    go_wp2_with fail
    refine (rsize_any sr sc w1).mono ?_
    rintro e w2 ⟨rfl, rfl⟩
    rw [HSZ.out]
    go_wp2
    go_ret
    exact ⟨rfl, HB1.out⟩
end Go.Proofs.YtkijclgbpbhglaaGreatDoor

namespace Go.Proofs.YtkijclgbpbhglaaGreatDoor
set_option maxRecDepth 100000
open Go.ChangeShapes Go.WideShapes Go.ChangeAt Go.RowKit
set_option linter.unusedVariables false

theorem Lns.whole {w : World} {b : Nat} {ls : List (List Cel)} (h : Lns w (some ⟨b, 0, none⟩) ls) (h1 : 1 ≤ ls.length) : ∃ l, Whole w b 132 l := by
  rcases h with rfl | ⟨b', cur, e, hh, _⟩
  · simp at h1
  · cases e
    exact ⟨cur.toList, by unfold Whole; simpa using hh⟩
theorem Lns.set {w : World} {b : Nat} {ls : List (List Cel)} (h : Lns w (some ⟨b, 0, none⟩) ls) {r : Nat} (hr : r < ls.length) {x : Value} {z : List Cel} (hx : RowOk w x z) : Lns (w.setCell ⟨b, r, none⟩ x) (some ⟨b, 0, none⟩) (ls.set r z) := by
  have hs : Stays 166 w (w.setCell ⟨b, r, none⟩ x) := by
    obtain ⟨l, hw⟩ := h.whole (by omega)
    exact Stays.put hw (by decide)
  rcases h with rfl | ⟨b', cur, e, hh, hc⟩
  · simp at hr
  · cases e
    have hw : Whole w b 132 cur.toList := by unfold Whole; simpa using hh
    have hlen : ∀ i, i < ls.length → i < cur.toList.length := by
      intro i hi
      obtain ⟨y, hy, _⟩ := hc i hi
      simpa using (Array.getElem?_eq_some_iff.1 hy).1
    refine .inr ⟨b, (cur.toList.set r x).toArray, rfl, hw.put r x, fun i hi => ?_⟩
    rw [List.length_set] at hi
    rw [set_lAt _ _ _ _ hi]
    by_cases q : i = r
    · subst q
      refine ⟨x, ?_, ?_⟩
      · have hl := hlen i hi
        rw [List.getElem?_toArray, List.getElem?_set, if_pos rfl, if_pos hl]
      · rw [if_pos rfl]; exact hx.keep hs
    · obtain ⟨y, hy, hyo⟩ := hc i hi
      refine ⟨y, ?_, ?_⟩
      · rw [List.getElem?_toArray, List.getElem?_set, if_neg (Ne.symm q)]
        simpa using hy
      · rw [if_neg q]; exact hyo.keep hs
end Go.Proofs.YtkijclgbpbhglaaGreatDoor

namespace Go.Proofs.YtkijclgbpbhglaaGreatDoor
set_option maxRecDepth 100000
open Go.ChangeShapes Go.WideShapes Go.ChangeAt Go.RowKit
set_option linter.unusedVariables false

/-- The document's cell of a place. -/
def atC (g : Gd) (R C : Nat) (r c : Int) : Cel × Bool := if hasG R r ∧ 0 ≤ c ∧ c < (C : Int) then (cAt (lAt g.ls r.toNat) c.toNat, true) else (zeroC, false)
theorem gat_any {G L M R C : Nat} {g : Gd} {w : World} (h : Grd w G L M R C g) (hC : C ≤ 512) (r c : Int) (x m y : Int) (d f z b : Nat) (ok : Bool) (hat : atC g R C r c = (⟨x, m, y, d, ⟨f, z, b⟩⟩, ok)) :
    Calls Tryz.prog 31 #[.pointer (some ⟨G, 0, none⟩), .int .i64 r, .int .i64 c] w fun e w' => e = .returned (.tuple #[.agg #[.int .i32 x, .int .i32 m, .int .i32 y, .int .u8 (d : Int), .int .u8 (f : Int), .int .u8 (z : Int), .int .u8 (b : Int)], .bool ok]) ∧ Below w.heap.size w w' := by
  unfold atC at hat
  by_cases q : hasG R r ∧ 0 ≤ c ∧ c < (C : Int)
  · rw [if_pos q] at hat
    simp only [Prod.mk.injEq] at hat
    obtain ⟨h1, rfl⟩ := hat
    have e1 : ((r.toNat : Nat) : Int) = r := by unfold hasG at q; omega
    have e2 : ((c.toNat : Nat) : Int) = c := by omega
    have := gat_yes h r.toNat c.toNat (by unfold hasG at q; omega) (by omega) hC x m y d f z b h1
    rw [e1, e2] at this
    exact this
  · rw [if_neg q] at hat
    simp only [Prod.mk.injEq, zeroC, zeroP, Cel.mk.injEq, Pn.mk.injEq] at hat
    obtain ⟨⟨rfl, rfl, rfl, rfl, rfl, rfl, rfl⟩, rfl⟩ := hat
    exact gat_no h r c q
end Go.Proofs.YtkijclgbpbhglaaGreatDoor

namespace Go.Proofs.YtkijclgbpbhglaaGreatDoor
set_option maxRecDepth 100000
open Go.ChangeShapes Go.WideShapes Go.ChangeAt Go.RowKit
set_option linter.unusedVariables false

def laid1 : List (String × DataW Unit) := [("prolepsis/width.spans", Rows.laid_prolepsis_width_spans)]
theorem gSpans : Tryz.prog.globalNamed "prolepsis/width.spans" = some 0 := by kernel_rfl
theorem tSpans : (Tryz.prog.globals[0]?).map (·.type) = some 220 := by kernel_rfl
theorem size219 : Tryz.prog.cellsOf 219 = 3 := by kernel_rfl
theorem sizeT21 : Tryz.prog.cellsOf 21 = 1 := by kernel_rfl
theorem sizeT3 : Tryz.prog.cellsOf 3 = 1 := by kernel_rfl

def spanData (s : Int × Int × Int) : DataW Unit := .agg [.lit (.int .i32 s.1), .lit (.int .i32 s.2.1), .lit (.int .i64 s.2.2)]
theorem laid_is : (Rows.laid_prolepsis_width_spans : DataW Unit) = .agg (spans.map spanData) := rfl

theorem flat3 (l : List (Int × Int × Int)) : ∀ (i d : Nat), d < 3 → (l.flatMap cellsOf3)[3 * i + d]? = (l[i]?).bind (fun s => (cellsOf3 s)[d]?) := by
  induction l with
  | nil => intro i d _; simp
  | cons s l ih =>
    intro i d hd
    have hl : (cellsOf3 s).length = 3 := rfl
    rw [List.flatMap_cons]
    cases i with
    | zero => rw [List.getElem?_append_left (by omega)]; simp
    | succ i =>
      rw [List.getElem?_append_right (by omega), hl, show 3 * (i + 1) + d - 3 = 3 * i + d by omega, ih i d hd]
      simp

theorem struct219 : ∃ f0 f1 f2 : Field, Tryz.prog.underlying 219 = some (.struct #[f0, f1, f2]) ∧ f0.type = 21 ∧ f1.type = 21 ∧ f2.type = 3 ∧ f0.offset = 0 ∧ f1.offset = 1 ∧ f2.offset = 2 := ⟨_, _, _, Tryz.underlying219, rfl, rfl, rfl, rfl, rfl, rfl⟩

theorem cells_of_span {W : World} {base : Nat} {sp : Nat → Bool} {held : Bool} {fuel : Nat} {cs : List Value} {enc : TypeId × Value → Unit} {s : Int × Int × Int} {q : List MemPlace}
    (h : DataW.trod enc Tryz.prog W base sp held fuel 219 cs = some (spanData s, q)) : cs = cellsOf3 s := by
  obtain ⟨f0, f1, f2, hu, e0, e1, e2, o0, o1, o2⟩ := struct219
  obtain ⟨y0, y1, y2, m, hx, hl, h0, h1, h2⟩ := Deep.trod_struct3 hu h
  rw [e0, o0, sizeT21] at h0
  rw [e1, o1, sizeT21] at h1
  rw [e2, o2, sizeT3] at h2
  rw [size219] at hl
  obtain ⟨n0, c0, r0, _⟩ := DataW.trod_int Tryz.underlying21 h0
  obtain ⟨n1, c1, r1, _⟩ := DataW.trod_int Tryz.underlying21 h1
  obtain ⟨n2, c2, r2, _⟩ := DataW.trod_int Tryz.underlying3 h2
  subst r0 r1 r2
  obtain ⟨s1, s2, s3⟩ := s
  simp [spanData] at hx
  obtain ⟨⟨rfl, rfl, rfl⟩, _⟩ := hx
  match cs, hl with
  | [a, b, c], _ =>
    simp at c0 c1 c2
    subst c0 c1 c2
    rfl

/-- The table lies where the walks want it. -/
theorem of_laid {W : World} (h : laidMetH Tryz.prog laid1 W) : Spans W := by
  rw [MakeChecks.laidMetH_plain _ _ _ (by kernel_rfl)] at h
  obtain ⟨ps, ⟨g0, t0, cs0, f0, p0, q0, hg0, ht0, hv0, hd0, _, _⟩, _, _⟩ := h
  obtain rfl := Option.some.inj (gSpans.symm.trans hg0)
  obtain rfl := Option.some.inj (tSpans.symm.trans ht0)
  rw [laid_is] at hd0
  obtain ⟨xs, m, rfl, hx, hlen, hn, hel⟩ := DataW.trod_array Tryz.underlying220 hd0
  simp only [Prod.mk.injEq, DataW.agg.injEq] at hx
  intro j v hv
  have hj : j = 3 * (j / 3) + j % 3 := by omega
  have hd3 : j % 3 < 3 := by omega
  generalize j / 3 = i at hj
  generalize j % 3 = d at hj hd3
  subst hj
  unfold spanCells at hv
  rw [flat3 spans i d hd3] at hv
  cases hs : spans[i]? with
  | none => rw [hs] at hv; cases hv
  | some s =>
    rw [hs] at hv
    have hi : i < 18 := (List.getElem?_eq_some_iff.1 hs).1
    have he := hel i hi
    cases hxi : xs[i]? with
    | none => have := List.getElem?_eq_none_iff.1 hxi; omega
    | some x =>
      rw [hxi, size219] at he
      have h1 : (xs.map (·.1))[i]? = some x.1 := by rw [List.getElem?_map, hxi]; rfl
      rw [← hx.1, List.getElem?_map, hs] at h1
      have h2 : spanData s = x.1 := by simpa using h1
      obtain ⟨x1, x2⟩ := x
      simp only at h2
      subst h2
      have hc := cells_of_span he
      have hcd : (cellsOf3 s)[d]? = some v := hv
      rw [← hc, List.getElem?_take, if_pos hd3, List.getElem?_drop] at hcd
      have := World.var?_cell hg0 hv0 (i * 3 + d)
      rw [Nat.zero_add, show 3 * i + d = i * 3 + d by omega, this, ← Array.getElem?_toList]
      exact hcd

/-- The door's own heap meets the condition: three closed facts. -/
theorem door_met (os : Os) (args : Array Value) : laidMetH Tryz.prog laid1 ((World.doorLaid Tryz.prog 400 os).forCall (fun _ _ => 0) ⟨#[], args, []⟩).memory :=
  laidMetH_of_parts3 (fuel := 8) (laidMet_of_run' 8 (by kernel_rfl) (by kernel_rfl)) (by kernel_rfl) (by kernel_rfl)
end Go.Proofs.YtkijclgbpbhglaaGreatDoor
