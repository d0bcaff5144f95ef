/-
  Contracts: a line in memory of its own, filled, mended.
  What is asked of a cell and of a pen that came in.
  Contracts: the law's Cut and Of; the document's New, Mend, Erase, Fit.
  Contracts: the document's Mend, Erase, Fit.
  Contracts: so many blanks; a line, mended; a part of a line; a line of another length.
  Contract: a line with blanks from a place to another one (the program's).
  Contracts: the document's Erase and Fit.
  Contract: a line with a mark more at a place (the program's).
-/
import Derived.Test.YtkijclgbpbhglaaGreatDoorQa2
import Derived.Test.YtkijclgbpbhglaaGreatDoorQa4
namespace Go.Proofs.YtkijclgbpbhglaaGreatDoor
set_option maxRecDepth 100000
open Go.ChangeShapes Go.WideShapes Go.ChangeAt Go.RowKit
set_option linter.unusedVariables false
/-- The call made this line in a block of its own, and left all that was there. -/
def Lined (cs : List Cel) (w : World) (e : Ending) (w' : World) : Prop := ∃ g, e = .returned (.slice (some ⟨g, 0, none⟩) cs.length cs.length) ∧ w.heap.size ≤ g ∧ Whole w' g 73 (flatC .i32 cs) ∧ Below w.heap.size w w'
theorem lay_zero (n : Nat) (cs : List Cel) (h : cs.length = n) : layC (List.replicate n zeroC) 0 (cs.take n) = cs := by
  subst h; unfold layC; simp
set_option maxRecDepth 100000 in
set_option maxHeartbeats 400000 in
theorem copied_any (A : Option Addr) (n c : Nat) (cs : List Cel) (w : World) (h : Cels .i32 w A cs) (hn : cs.length = n) (hl : n ≤ 1000000) : Calls Tryz.prog 208 #[.slice A n c] w (Lined cs w) := by
  have HC := hide h
  have HN := hide hn
  clear h hn
  go_enter Tryz.func208, Tryz.ntmps208
  go_wp2_with (at_make; refine stopw ?_)
  unfold Hid
  refine wpList_makeL elemL rfl _ _ rfl n rfl rfl hl (by omega) ?_
  intro w1 hw1 hb1
  have HW1 := hide hw1
  have HB1 := hide hb1
  clear hw1 hb1
  obtain ⟨w2, hrun, hw2, ho2⟩ := run_copyL elemL w1 3 w.heap.size 0 73 (List.replicate n zeroC) cs A n n n c HW1.out (HC.out.below HB1.out) HN.out (by simp)
  rw [Nat.zero_mul] at hrun
  rw [lay_zero n cs HN.out] at hw2
  have HW2 := hide hw2
  have HB2 := hide (ho2.below HB1.out HB1.out.size (Nat.le_refl _))
  clear hw2 ho2
  go_wp2
  go_ret
  exact ⟨_, by rw [HN.out]; rfl, Nat.le_refl _, HW2.out, HB2.out⟩
theorem set7 {α : Type} (L : List α) (o : Nat) (h : o + 7 ≤ L.length) (v0 v1 v2 v3 v4 v5 v6 : α) : ((((((L.set o v0).set (o + 1) v1).set (o + 2) v2).set (o + 3) v3).set (o + 4) v4).set (o + 5) v5).set (o + 6) v6 = L.take o ++ ([v0, v1, v2, v3, v4, v5, v6] ++ L.drop (o + 7)) := by
  apply List.ext_getElem?
  intro i
  by_cases h1 : i < o
  · rw [List.getElem?_append_left (by simp; omega), List.getElem?_take, if_pos h1]
    simp only [List.getElem?_set, List.length_set]
    simp [show ¬ o = i by omega, show ¬ o + 1 = i by omega, show ¬ o + 2 = i by omega, show ¬ o + 3 = i by omega, show ¬ o + 4 = i by omega, show ¬ o + 5 = i by omega, show ¬ o + 6 = i by omega]
  · obtain ⟨d, rfl⟩ : ∃ d, i = o + d := ⟨i - o, by omega⟩
    have hl : (L.take o).length = o := by simp; omega
    rw [List.getElem?_append_right (by omega), hl, show o + d - o = d by omega]
    simp only [List.getElem?_set, List.length_set]
    match d with
    | 0 => simp; omega
    | 1 => simp; omega
    | 2 => simp; omega
    | 3 => simp; omega
    | 4 => simp; omega
    | 5 => simp; omega
    | 6 => simp; omega
    | d + 7 =>
      rw [List.getElem?_append_right (by simp), List.getElem?_drop]
      simp
      congr 1
      omega
theorem put_cell {k : IntKind} {w : World} {g : Nat} {t : TypeId} {ds : List Cel} (h : Whole w g t (flatC k ds)) (o j : Nat) (ho : o = j * 7) (hj : j < ds.length) (c : Cel) :
    Whole (((((((w.setCell ⟨g, o, none⟩ (.int k c.r)).setCell ⟨g, o + 1, none⟩ (.int k c.m)).setCell ⟨g, o + 2, none⟩ (.int k c.n)).setCell ⟨g, o + 3, none⟩ (.int .u8 (c.w : Int))).setCell ⟨g, o + 4, none⟩ (.int .u8 (c.p.f : Int))).setCell ⟨g, o + 5, none⟩ (.int .u8 (c.p.g : Int))).setCell ⟨g, o + 6, none⟩ (.int .u8 (c.p.b : Int))) g t (flatC k (ds.set j c)) := by
  have e := ((((((h.put o (.int k c.r)).put (o + 1) (.int k c.m)).put (o + 2) (.int k c.n)).put (o + 3) (.int .u8 (c.w : Int))).put (o + 4) (.int .u8 (c.p.f : Int))).put (o + 5) (.int .u8 (c.p.g : Int))).put (o + 6) (.int .u8 (c.p.b : Int))
  rw [set7 _ o (by rw [flatC_len]; omega)] at e
  rw [set_lay ds j c hj, flat_lay]
  subst ho
  exact e
theorem only_cell {w : World} {g : Nat} (o : Nat) (x0 x1 x2 x3 x4 x5 x6 : Value) : Only g w (((((((w.setCell ⟨g, o, none⟩ x0).setCell ⟨g, o + 1, none⟩ x1).setCell ⟨g, o + 2, none⟩ x2).setCell ⟨g, o + 3, none⟩ x3).setCell ⟨g, o + 4, none⟩ x4).setCell ⟨g, o + 5, none⟩ x5).setCell ⟨g, o + 6, none⟩ x6) :=
  ((((((Only.put _ _).trans (Only.put _ _)).trans (Only.put _ _)).trans (Only.put _ _)).trans (Only.put _ _)).trans (Only.put _ _)).trans (Only.put _ _)
/-- What the walk wants to know of a cell in a row known whole. -/
theorem Whole.seven {k : IntKind} {w : World} {g : Nat} {t : TypeId} {ds : List Cel} (h : Whole w g t (flatC k ds)) (o j : Nat) (ho : o = j * 7) (hj : j < ds.length) :
    w.cell? ⟨g, o, none⟩ = some (.int k (cAt ds j).r) ∧ w.cell? ⟨g, o + 1, none⟩ = some (.int k (cAt ds j).m) ∧ w.cell? ⟨g, o + 2, none⟩ = some (.int k (cAt ds j).n) ∧ w.cell? ⟨g, o + 3, none⟩ = some (.int .u8 ((cAt ds j).w : Int)) ∧ w.cell? ⟨g, o + 4, none⟩ = some (.int .u8 ((cAt ds j).p.f : Int)) ∧ w.cell? ⟨g, o + 5, none⟩ = some (.int .u8 ((cAt ds j).p.g : Int)) ∧ w.cell? ⟨g, o + 6, none⟩ = some (.int .u8 ((cAt ds j).p.b : Int)) ∧ ∀ i, w.frozen? ⟨g, i, none⟩ = false := by
  subst ho
  have key : ∀ d v, d < 7 → (cellL k (cAt ds j))[d]? = some v → w.cell? ⟨g, j * 7 + d, none⟩ = some v := by
    intro d v hd hv
    rw [h.cell, flatC_get k ds j d hd, get_cAt ds j hj]
    exact hv
  exact ⟨key 0 _ (by omega) rfl, key 1 _ (by omega) rfl, key 2 _ (by omega) rfl, key 3 _ (by omega) rfl, key 4 _ (by omega) rfl, key 5 _ (by omega) rfl, key 6 _ (by omega) rfl, h.frozen⟩
/-- ds, k cells from p on being c. -/
def fillC (ds : List Cel) (p k : Nat) (c : Cel) : List Cel := tab ds.length (fun i => if p ≤ i ∧ i < p + k then c else cAt ds i)
theorem fill_len (ds : List Cel) (p k : Nat) (c : Cel) : (fillC ds p k c).length = ds.length := tab_len _ _
theorem fill_0 (ds : List Cel) (p : Nat) (c : Cel) : fillC ds p 0 c = ds := by
  unfold fillC
  conv => rhs; rw [← tab_self ds]
  exact tab_eq fun i _ => by rw [if_neg (by omega)]
theorem fill_next (ds : List Cel) (p k : Nat) (c : Cel) : fillC ds p (k + 1) c = (fillC ds p k c).set (p + k) c := by
  unfold fillC
  rw [tab_set]
  refine tab_eq fun i _ => ?_
  by_cases h : i = p + k
  · rw [if_pos (by omega), if_pos h]
  · rw [if_neg h]
    by_cases h2 : p ≤ i ∧ i < p + k
    · rw [if_pos (by omega), if_pos h2]
    · rw [if_neg (by omega), if_neg h2]
set_option maxRecDepth 100000 in
set_option maxHeartbeats 1000000 in
theorem fill_any (g p n cap : Nat) (r m x : Int) (d f y b : Nat) (ds : List Cel) (w : World) (h : Whole w g 73 (flatC .i32 ds)) (hp : p + n ≤ ds.length) (hl : ds.length ≤ 1000000) :
    Calls Tryz.prog 120 #[.slice (some ⟨g, p * 7, none⟩) n cap, .agg #[.int .i32 r, .int .i32 m, .int .i32 x, .int .u8 (d : Int), .int .u8 (f : Int), .int .u8 (y : Int), .int .u8 (b : Int)]] w fun e w' => e = .returned (.tuple #[]) ∧ Whole w' g 73 (flatC .i32 (fillC ds p n ⟨r, m, x, d, ⟨f, y, b⟩⟩)) ∧ Only g w w' := by
  obtain ⟨W0, hW0⟩ : ∃ W0, w.alloc (.cells #[.int .i32 r, .int .i32 m, .int .i32 x, .int .u8 (d : Int), .int .u8 (f : Int), .int .u8 (y : Int), .int .u8 (b : Int)] 73) = W0 := ⟨_, rfl⟩
  have HA : Hid (Whole W0 w.heap.size 73 [.int .i32 r, .int .i32 m, .int .i32 x, .int .u8 (d : Int), .int .u8 (f : Int), .int .u8 (y : Int), .int .u8 (b : Int)]) := by unfold Hid; rw [← hW0]; exact Whole.new w 73 [.int .i32 r, .int .i32 m, .int .i32 x, .int .u8 (d : Int), .int .u8 (f : Int), .int .u8 (y : Int), .int .u8 (b : Int)]
  have HG : Hid (Whole W0 g 73 (flatC .i32 ds)) := by unfold Hid; rw [← hW0]; exact h.alloc _
  have HO : Hid (Only g w W0) := by unfold Hid; rw [← hW0]; exact Only.of_below ((Below.refl _ _).alloc (Nat.le_refl _) _)
  have HL : Hid (g < w.heap.size) := h.lt
  have HW0 := hide hW0
  clear hW0 h
  obtain ⟨P, hP⟩ : ∃ P, p * 7 = P := ⟨_, rfl⟩
  rw [hP]
  have HP := hide hP
  clear hP
  go_enter Tryz.func120, Tryz.ntmps120
  go_wp2
  rw [HW0.out]
  go_loopw [4, 7] (fun _ i wr => ∃ k : Nat, k ≤ n ∧ i = .int .i64 k ∧ Whole wr g 73 (flatC .i32 (fillC ds p k ⟨r, m, x, d, ⟨f, y, b⟩⟩)) ∧ Only g W0 wr) (fun _ i _ => n - (intOf i).toNat)
  case atStart => exact ⟨0, Nat.zero_le _, rfl, by rw [fill_0]; exact HG.out, Only.refl⟩
  case round =>
    obtain ⟨k, hk, rfl, hw, ho⟩ := hrel
    by_cases hlt : k < n
    · obtain ⟨a0, a1, a2, a3, a4, a5, a6, -⟩ := cells7 (HA.out.far ho (by have := HL.out; omega))
      obtain ⟨b0, b1, b2, b3, b4, b5, b6, b7⟩ := hw.seven (P + k * 7) (p + k) (by rw [← HP.out]; omega) (by rw [fill_len]; omega)
      have HV := hide hw
      have HOO := hide ho
      clear hw ho
      go_wp2
      go_roundw
      case rel => exact ⟨k + 1, by omega, by go_num, by rw [fill_next]; exact put_cell HV.out _ (p + k) (by rw [← HP.out]; omega) (by rw [fill_len]; omega) ⟨r, m, x, d, ⟨f, y, b⟩⟩, HOO.out.trans (only_cell _ _ _ _ _ _ _ _)⟩
      case measure => simp [intOf]; omega
    · have HV := hide hw
      have HOO := hide ho
      clear hw ho
      obtain rfl : k = n := by omega
      go_wp2
      exact bodyPost_end (v := .tuple #[]) (by simp [results, Tryz.results120]) rfl ⟨rfl, HV.out, HO.out.trans HOO.out⟩
/-- A cell of a row known whole, as the walk wants it. -/
theorem Whole.sevenC {k : IntKind} {w : World} {g : Nat} {t : TypeId} {ds : List Cel} (h : Whole w g t (flatC k ds)) (o j : Nat) (ho : o = j * 7) (hj : j < ds.length) {r m x : Int} {d f y b : Nat} (hc : cAt ds j = ⟨r, m, x, d, ⟨f, y, b⟩⟩) :
    w.cell? ⟨g, o, none⟩ = some (.int k r) ∧ w.cell? ⟨g, o + 1, none⟩ = some (.int k m) ∧ w.cell? ⟨g, o + 2, none⟩ = some (.int k x) ∧ w.cell? ⟨g, o + 3, none⟩ = some (.int .u8 (d : Int)) ∧ w.cell? ⟨g, o + 4, none⟩ = some (.int .u8 (f : Int)) ∧ w.cell? ⟨g, o + 5, none⟩ = some (.int .u8 (y : Int)) ∧ w.cell? ⟨g, o + 6, none⟩ = some (.int .u8 (b : Int)) ∧ ∀ i, w.frozen? ⟨g, i, none⟩ = false := by
  have := h.seven o j ho hj
  rw [hc] at this
  exact this
/-- A cell of a slice that is read. -/
theorem Cels.sevenC {k : IntKind} {w : World} {g off : Nat} {ds : List Cel} (h : Cels k w (some ⟨g, off, none⟩) ds) (j : Nat) (hj : j < ds.length) {r m x : Int} {d f y b : Nat} (hc : cAt ds j = ⟨r, m, x, d, ⟨f, y, b⟩⟩) :
    w.cell? ⟨g, off + j * 7, none⟩ = some (.int k r) ∧ w.cell? ⟨g, off + j * 7 + 1, none⟩ = some (.int k m) ∧ w.cell? ⟨g, off + j * 7 + 2, none⟩ = some (.int k x) ∧ w.cell? ⟨g, off + j * 7 + 3, none⟩ = some (.int .u8 (d : Int)) ∧ w.cell? ⟨g, off + j * 7 + 4, none⟩ = some (.int .u8 (f : Int)) ∧ w.cell? ⟨g, off + j * 7 + 5, none⟩ = some (.int .u8 (y : Int)) ∧ w.cell? ⟨g, off + j * 7 + 6, none⟩ = some (.int .u8 (b : Int)) ∧ g < w.heap.size := by
  obtain ⟨b', off', e, hb, key⟩ := h.at hj
  cases e
  rw [hc] at key
  exact ⟨key 0 _ rfl, key 1 _ rfl, key 2 _ rfl, key 3 _ rfl, key 4 _ rfl, key 5 _ rfl, key 6 _ rfl, hb⟩
set_option maxRecDepth 100000 in
set_option maxHeartbeats 2000000 in
theorem mendown_any (g n : Nat) (ds : List Cel) (w : World) (h : Whole w g 73 (flatC .i32 ds)) (hn : ds.length = n) (hl : n ≤ 1000000) :
    Calls Tryz.prog 126 #[.slice (some ⟨g, 0, none⟩) n n] w fun e w' => e = .returned (.slice (some ⟨g, 0, none⟩) n n) ∧ Whole w' g 73 (flatC .i32 (mendC ds)) ∧ Only g w w' := by
  have HG := hide h
  have HN := hide hn
  clear h hn
  go_enter Tryz.func126, Tryz.ntmps126
  go_wp2
  go_loopw [3, 4, 7] (fun _ _ i wr => ∃ k : Nat, k ≤ n ∧ i = .int .i64 k ∧ Whole wr g 73 (flatC .i32 (mixC ds k)) ∧ Only g w wr) (fun _ _ i _ => n - (intOf i).toNat)
  case atStart => exact ⟨0, Nat.zero_le _, rfl, by rw [mix_0]; exact HG.out, Only.refl⟩
  case round =>
    obtain ⟨k, hk, rfl, hw, ho⟩ := hrel
    have HV := hide hw
    have HOO := hide ho
    clear hw ho
    by_cases hlt : k < n
    · obtain ⟨⟨r, m, x, d, ⟨f, y, b⟩⟩, hc⟩ : ∃ c, cAt (mixC ds k) k = c := ⟨_, rfl⟩
      have HM : Hid (cAt ds k = ⟨r, m, x, d, ⟨f, y, b⟩⟩) := by unfold Hid; rw [← hc, mix_self ds k (by rw [HN.out]; exact hlt)]
      obtain ⟨a0, a1, a2, a3, a4, a5, a6, -⟩ := HV.out.sevenC (k * 7) k rfl (by rw [mix_len, HN.out]; exact hlt) hc
      obtain ⟨W1, hW1⟩ : ∃ W1, wr.alloc (.cells #[.int .i32 r, .int .i32 m, .int .i32 x, .int .u8 (d : Int), .int .u8 (f : Int), .int .u8 (y : Int), .int .u8 (b : Int)] 73) = W1 := ⟨_, rfl⟩
      have HA : Hid (Whole W1 wr.heap.size 73 [.int .i32 r, .int .i32 m, .int .i32 x, .int .u8 (d : Int), .int .u8 (f : Int), .int .u8 (y : Int), .int .u8 (b : Int)]) := by unfold Hid; rw [← hW1]; exact Whole.new wr 73 [.int .i32 r, .int .i32 m, .int .i32 x, .int .u8 (d : Int), .int .u8 (f : Int), .int .u8 (y : Int), .int .u8 (b : Int)]
      have HG1 : Hid (Whole W1 g 73 (flatC .i32 (mixC ds k))) := by unfold Hid; rw [← hW1]; exact HV.out.alloc _
      have HO1 : Hid (Only g w W1) := by unfold Hid; rw [← hW1]; exact HOO.out.trans (Only.of_below ((Below.refl _ _).alloc (Nat.le_refl _) _))
      have HL : Hid (g < wr.heap.size) := HV.out.lt
      have HW1 := hide hW1
      have HAL := hide (mix_alone ds k (by rw [HN.out]; exact hlt))
      clear hW1 hc HV HOO
      go_wp2_with fail
      rw [HW1.out]
      refine (alone_any (some ⟨g, 0, none⟩) n n k (mixC ds k) W1 HG1.out.cels (by rw [mix_len, HN.out]) hlt hl).mono ?_
      rintro e w1 ⟨rfl, rfl⟩
      rw [HAL.out]
      clear a0 a1 a2 a3 a4 a5 a6
      cases hal : aloneC ds k
      case false =>
        have HS := hide (mix_stay ds k (by rw [HN.out]; exact hlt) hal)
        clear hal
        go_wp2
        go_roundw
        case rel => exact ⟨k + 1, by omega, by go_num, by rw [HS.out]; exact HG1.out, HO1.out⟩
        case measure => simp [intOf]; omega
      case true =>
        have HS : Hid (mixC ds (k + 1) = (mixC ds k).set k ⟨32, 0, 0, 1, ⟨f, y, b⟩⟩) := by unfold Hid; rw [mix_next, mendAt_yes ds k hal, HM.out]; rfl
        clear hal
        obtain ⟨a0, a1, a2, a3, a4, a5, a6, -⟩ := cells7 HA.out
        go_wp2_with fail
        refine (blank_v f y b W1).mono ?_
        rintro e w2 ⟨rfl, hb⟩
        clear a0 a1 a2 a3 a4 a5 a6
        have HG2 := hide (HG1.out.later hb)
        have HO2 := hide (HO1.out.trans (Only.of_below hb))
        clear hb
        obtain ⟨b0, b1, b2, b3, b4, b5, b6, b7⟩ := HG2.out.seven (k * 7) k rfl (by rw [mix_len, HN.out]; exact hlt)
        go_wp2
        go_roundw
        case rel => exact ⟨k + 1, by omega, by go_num, by rw [HS.out]; exact put_cell HG2.out _ k rfl (by rw [mix_len, HN.out]; exact hlt) ⟨32, 0, 0, 1, ⟨f, y, b⟩⟩, HO2.out.trans (only_cell _ _ _ _ _ _ _ _)⟩
        case measure => simp [intOf]; omega
    · go_wp2
      go_ret
      exact ⟨rfl, by rw [← mix_all ds k (by rw [HN.out]; omega)]; exact HV.out, HOO.out⟩
end Go.Proofs.YtkijclgbpbhglaaGreatDoor

namespace Go.Proofs.YtkijclgbpbhglaaGreatDoor
set_option maxRecDepth 100000
open Go.ChangeShapes Go.WideShapes Go.ChangeAt Go.RowKit
set_option linter.unusedVariables false

/-- A cell's numbers fit. -/
def CelB (c : Cel) : Prop := R32 c.r ∧ R32 c.m ∧ R32 c.n ∧ c.w < 256
def LB (cs : List Cel) : Prop := ∀ i, i < cs.length → CelB (cAt cs i)
/-- The call made a row of these cells, and left all that was there. -/
def MadeC (t : TypeId) (k : IntKind) (w : World) (cs : List Cel) (e : Ending) (w' : World) : Prop := ∃ v, e = .returned v ∧ OwnC t k w.heap.size w w' v cs
theorem take_cAt (cs : List Cel) (k : Nat) (h : k < cs.length) : cs.take (k + 1) = cs.take k ++ [cAt cs k] := by
  rw [List.take_succ_eq_append_getElem h]
  congr 2
  exact Option.some.inj ((List.getElem?_eq_getElem h).symm.trans (get_cAt cs k h))
end Go.Proofs.YtkijclgbpbhglaaGreatDoor

namespace Go.Proofs.YtkijclgbpbhglaaGreatDoor
set_option maxRecDepth 100000
open Go.ChangeShapes Go.WideShapes Go.ChangeAt Go.RowKit
set_option linter.unusedVariables false

theorem fill_new (n : Int) : fillC (List.replicate (lenN n) zeroC) 0 (lenN n) (blankC zeroP) = newC n := by
  unfold fillC newC
  rw [List.length_replicate]
  exact tab_eq fun i hi => by rw [if_pos (by omega)]
theorem new_len (n : Int) : (newC n).length = lenN n := tab_len _ _
set_option maxRecDepth 100000 in
set_option maxHeartbeats 1000000 in
theorem new_any (n : Int) (w : World) : Calls Tryz.prog 66 #[.int .i64 n] w (Lined (newC n) w) := by
  obtain ⟨N, hN⟩ : ∃ N, lenN n = N := ⟨_, rfl⟩
  have hm : min (max n 0) 512 = (N : Int) := by rw [← hN]; unfold lenN; omega
  have hl : N ≤ 512 := by rw [← hN]; exact lenN_le n
  have HN := hide hN
  clear hN
  go_enter Tryz.func66, Tryz.ntmps66
  go_wp2_with (at_make; refine stopw ?_)
  unfold Hid
  refine wpList_makeL elemL rfl _ _ rfl N rfl rfl (by omega) (by omega) ?_
  intro w1 hw1 hb1
  have HW1 := hide hw1
  have HB1 := hide hb1
  clear hw1 hb1
  go_wp2_with fail
  refine (blank_v 0 0 0 w1).mono ?_
  rintro e w2 ⟨rfl, hb⟩
  have HW2 := hide (HW1.out.later hb)
  have HB2 := hide (HB1.out.trans (hb.mono HB1.out.size))
  clear hb
  go_wp2_with fail
  refine (fill_any w.heap.size 0 N N 32 0 0 1 0 0 0 (List.replicate N zeroC) w2 HW2.out (by simp) (by simp; omega)).mono ?_
  rintro e w3 ⟨rfl, hw3, ho3⟩
  have HW3 : Hid (Whole w3 w.heap.size 73 (flatC .i32 (newC n))) := by unfold Hid; rw [← fill_new, HN.out]; exact hw3
  have HB3 := hide (ho3.below HB2.out HB2.out.size (Nat.le_refl _))
  clear hw3 ho3
  go_wp2
  go_ret
  exact ⟨_, by rw [new_len, HN.out]; rfl, Nat.le_refl _, HW3.out, HB3.out⟩
theorem fitTab_len (cs : List Cel) (n : Int) : (fitTab cs n).length = lenN n := tab_len _ _
theorem fit_len (cs : List Cel) (n : Int) : (fitC cs n).length = lenN n := by unfold fitC; rw [mend_len, fitTab_len]
set_option maxRecDepth 100000 in
set_option maxHeartbeats 1000000 in
theorem cut_any (g n p q : Nat) (w : World) (h : p < q) (hq : q ≤ n) : Calls Tryz.prog 210 #[.slice (some ⟨g, 0, none⟩) n n, .int .i64 (p : Int), .int .i64 (q : Int)] w fun e w' => e = .returned (.slice (some ⟨g, p * 7, none⟩) (q - p) (q - p)) ∧ w = w' := by
  have hne : ¬ n = p := by omega
  go_enter Tryz.func210, Tryz.ntmps210
  go_wp2
  go_ret
  exact ⟨rfl, rfl⟩
end Go.Proofs.YtkijclgbpbhglaaGreatDoor

namespace Go.Proofs.YtkijclgbpbhglaaGreatDoor
set_option maxRecDepth 100000
open Go.ChangeShapes Go.WideShapes Go.ChangeAt Go.RowKit
set_option linter.unusedVariables false

set_option maxRecDepth 100000 in
set_option maxHeartbeats 1000000 in
theorem hold_any (x : Int) (q n : Nat) (A : Option Addr) (c : Nat) (w : World) (h : w.cell? ⟨q, 0, none⟩ = some (.slice A n c)) (m : Nat) (hm : min (max x 0) (n : Int) = (m : Int)) :
    Calls Tryz.prog 211 #[.int .i64 x, .pointer (some ⟨q, 0, none⟩)] w fun e w' => e = .returned (.int .i64 (m : Int)) ∧ w = w' := by
  go_enter Tryz.func211, Tryz.ntmps211
  go_wp2
  go_ret
  exact ⟨rfl, rfl⟩
/-- A number brought to 0 to n. -/
def clampN (x : Int) (n : Nat) : Nat := (min (max x 0) (n : Int)).toNat
theorem clampN_is (x : Int) (n : Nat) : min (max x 0) (n : Int) = (clampN x n : Int) := by unfold clampN; omega
theorem clampN_le (x : Int) (n : Nat) : clampN x n ≤ n := by unfold clampN; omega
theorem fill_erase (cs : List Cel) (x y : Int) (p : Pn) (n : Nat) (hn : cs.length = n) (h : clampN x n < clampN y n) : fillC cs (clampN x n) (clampN y n - clampN x n) (blankC p) = eraseTab cs x y p := by
  unfold fillC eraseTab
  refine tab_eq fun i hi => ?_
  unfold clampN at *
  by_cases q : x ≤ (i : Int) ∧ (i : Int) < y
  · rw [if_pos q, if_pos (by omega)]
  · rw [if_neg q, if_neg (by omega)]
theorem none_erase (cs : List Cel) (x y : Int) (p : Pn) (n : Nat) (hn : cs.length = n) (h : ¬ clampN x n < clampN y n) : eraseTab cs x y p = cs := by
  unfold eraseTab
  conv => rhs; rw [← tab_self cs]
  refine tab_eq fun i hi => ?_
  unfold clampN at *
  rw [if_neg (by omega)]
theorem eraseTab_len (cs : List Cel) (x y : Int) (p : Pn) : (eraseTab cs x y p).length = cs.length := tab_len _ _
theorem erase_len (cs : List Cel) (x y : Int) (p : Pn) : (eraseC cs x y p).length = cs.length := by unfold eraseC; rw [mend_len, eraseTab_len]
set_option maxRecDepth 100000 in
set_option maxHeartbeats 2000000 in
theorem erase_any (A : Option Addr) (n c : Nat) (x y : Int) (f g b : Nat) (cs : List Cel) (w : World) (h : Cels .i32 w A cs) (hn : cs.length = n) (hl : n ≤ 1000000) :
    Calls Tryz.prog 200 #[.slice A n c, .int .i64 x, .int .i64 y, .agg #[.int .u8 (f : Int), .int .u8 (g : Int), .int .u8 (b : Int)]] w (Lined (eraseC cs x y ⟨f, g, b⟩) w) := by
  have HC := hide h
  have HN := hide hn
  obtain ⟨X, hX⟩ : ∃ X, clampN x n = X := ⟨_, rfl⟩
  obtain ⟨Y, hY⟩ : ∃ Y, clampN y n = Y := ⟨_, rfl⟩
  have HX : Hid (min (max x 0) (n : Int) = (X : Int)) := by unfold Hid; rw [clampN_is, hX]
  have HY : Hid (min (max y 0) (n : Int) = (Y : Int)) := by unfold Hid; rw [clampN_is, hY]
  have hYn : Y ≤ n := by rw [← hY]; exact clampN_le y n
  have HF : Hid (X < Y → fillC cs X (Y - X) (blankC ⟨f, g, b⟩) = eraseTab cs x y ⟨f, g, b⟩) := by
    unfold Hid; intro q; rw [← hX, ← hY] at q ⊢; exact fill_erase cs x y _ n hn q
  have HE : Hid (¬ X < Y → eraseTab cs x y ⟨f, g, b⟩ = cs) := by
    unfold Hid; intro q; rw [← hX, ← hY] at q; exact none_erase cs x y _ n hn q
  clear hX hY
  obtain ⟨W0, hW0⟩ : ∃ W0, w.alloc (.cells #[.int .u8 (f : Int), .int .u8 (g : Int), .int .u8 (b : Int)] 65) = W0 := ⟨_, rfl⟩
  have HB0 : Hid (Below w.heap.size w W0) := by unfold Hid; rw [← hW0]; exact (Below.refl _ _).alloc (Nat.le_refl _) _
  have HP0 : Hid (Whole W0 w.heap.size 65 [.int .u8 (f : Int), .int .u8 (g : Int), .int .u8 (b : Int)]) := by unfold Hid; rw [← hW0]; exact Whole.new w 65 [.int .u8 (f : Int), .int .u8 (g : Int), .int .u8 (b : Int)]
  have HC0 : Hid (Cels .i32 W0 A cs) := by unfold Hid; rw [← hW0]; exact HC.out.alloc _
  have HW0 := hide hW0
  clear h hn hW0 HC
  go_enter Tryz.func200, Tryz.ntmps200
  go_wp2_with fail
  rw [HW0.out]
  refine (copied_any A n c cs W0 HC0.out HN.out hl).mono ?_
  rintro e w1 ⟨g1, rfl, hg, hw, hb⟩
  rw [HN.out]
  obtain ⟨W1, hW1⟩ : ∃ W1, w1.alloc (.cells #[.slice (some ⟨g1, 0, none⟩) n n] 97) = W1 := ⟨_, rfl⟩
  have HB1 : Hid (Below w.heap.size w W1) := by unfold Hid; rw [← hW1]; have q := HB0.out.trans (hb.mono HB0.out.size); exact q.alloc q.size _
  have HP1 : Hid (Whole W1 w.heap.size 65 [.int .u8 (f : Int), .int .u8 (g : Int), .int .u8 (b : Int)]) := by unfold Hid; rw [← hW1]; exact (HP0.out.later hb).alloc _
  have HG1 : Hid (Whole W1 g1 73 (flatC .i32 cs)) := by unfold Hid; rw [← hW1]; exact hw.alloc _
  have HQ1 : Hid (Whole W1 w1.heap.size 97 [.slice (some ⟨g1, 0, none⟩) n n]) := by unfold Hid; rw [← hW1]; exact Whole.new w1 97 [.slice (some ⟨g1, 0, none⟩) n n]
  have HG : Hid (w.heap.size ≤ g1) := by unfold Hid; exact Nat.le_trans HB0.out.size hg
  have HNP : Hid (w.heap.size ≠ g1) := by unfold Hid; have := HP0.out.lt; omega
  have HNQ : Hid (w1.heap.size ≠ g1) := by unfold Hid; have := hw.lt; omega
  have HW1 := hide hW1
  clear hg hw hb hW1
  go_wp2_with fail
  rw [HW1.out]
  refine (hold_any x w1.heap.size n (some ⟨g1, 0, none⟩) n W1 (HQ1.out.cell 0) X HX.out).mono ?_
  rintro e w2 ⟨rfl, rfl⟩
  go_wp2_with fail
  refine (hold_any y w1.heap.size n (some ⟨g1, 0, none⟩) n W1 (HQ1.out.cell 0) Y HY.out).mono ?_
  rintro e w2 ⟨rfl, rfl⟩
  by_cases hXY : X < Y
  · have HD := hide (HF.out hXY)
    go_wp2
    refine wp_region_chainH (fun w' => Only g1 W1 w') [(true, 1), (true, 2), (true, 0), (true, 4), (false, 3), (false, 5), (false, 6)] (by kernel_rfl) (by kernel_rfl) (by kernel_rfl) (fun _ _ _ _ _ h => h) ?_ ?_
    · exact Only.of_below ((Below.refl _ _).drewN 1)
    refine chainH_take (v := ?_) (by simp only [List.getElem?_toArray, List.getElem?_cons_zero, List.getElem?_cons_succ]; rfl) (by rfl) (fun w hS => ?_) ?_
    rotate_left
    · go_simp <;> with_reducible rfl
    simp only [Act.put, List.setIfInBounds_toArray, List.set_cons_zero, List.set_cons_succ]
    refine chainH_take (v := ?_) (by simp only [List.getElem?_toArray, List.getElem?_cons_zero, List.getElem?_cons_succ]; rfl) (by rfl) (fun w hS => ?_) ?_
    rotate_left
    · go_simp <;> with_reducible rfl
    simp only [Act.put, List.setIfInBounds_toArray, List.set_cons_zero, List.set_cons_succ]
    refine chainH_take (v := ?_) (by simp only [List.getElem?_toArray, List.getElem?_cons_zero]; rfl) (by rfl) (fun w hS => ?_) ?_
    rotate_left
    · have f0 := (HQ1.out.far hS HNQ.out).cell 0; go_simp <;> with_reducible rfl
    simp only [Act.put, List.setIfInBounds_toArray, List.set_cons_zero, List.set_cons_succ]
    refine chainH_take (v := ?_) (by simp only [List.getElem?_toArray, List.getElem?_cons_zero, List.getElem?_cons_succ]; rfl) (by rfl) (fun w hS => ?_) ?_
    rotate_left
    · obtain ⟨a0, a1, a2, -⟩ := cells3 (HP1.out.far hS HNP.out); go_simp <;> with_reducible rfl
    simp only [Act.put, List.setIfInBounds_toArray, List.set_cons_zero, List.set_cons_succ]
    refine chainH_alone (by simp only [List.getElem?_toArray, List.getElem?_cons_zero, List.getElem?_cons_succ]; rfl) ?_
    intro K hK
    go_wp2_with fail
    refine (cut_any g1 n X Y _ hXY hYn).mono ?_
    rintro e k1 ⟨rfl, rfl⟩
    have Ok1 : Only g1 W1 W1.drew := Only.of_below ((Below.refl _ _).drewN 1)
    go_wp2
    refine hK.out _ _ Ok1 ?_
    clear hK K
    refine chainH_alone (by simp only [List.getElem?_toArray, List.getElem?_cons_zero, List.getElem?_cons_succ]; rfl) ?_
    intro K hK
    go_wp2_with fail
    refine (blank_v f g b _).mono ?_
    rintro e k2 ⟨rfl, hb⟩
    have Ok2 : Only g1 W1 k2 := Ok1.trans (Only.of_below hb)
    have Wk2 := hide ((HG1.out.drewN 1).later (w' := k2) hb)
    clear hb
    go_wp2
    refine hK.out _ _ Ok2 ?_
    clear hK K
    refine chainH_alone (by simp only [List.getElem?_toArray, List.getElem?_cons_zero, List.getElem?_cons_succ]; rfl) ?_
    intro K hK
    go_wp2_with fail
    refine (fill_any g1 X (Y - X) (Y - X) 32 0 0 1 f g b cs k2 Wk2.out (by rw [HN.out]; omega) (by rw [HN.out]; exact hl)).mono ?_
    rintro e k3 ⟨rfl, hw3, ho3⟩
    have Ok3 : Only g1 W1 k3 := Ok2.trans ho3
    have Wk3 : Hid (Whole k3 g1 73 (flatC .i32 (eraseTab cs x y ⟨f, g, b⟩))) := by unfold Hid; rw [← HD.out]; exact hw3
    have HO3 := hide Ok3
    clear hw3 ho3
    go_wp2
    refine hK.out _ _ Ok3 ?_
    clear hK K
    refine chainH_nil ?_
    clear Ok1 Ok2 Ok3
    have f0 := (HQ1.out.far HO3.out HNQ.out).cell 0
    simp only [List.getElem?_cons_zero] at f0
    go_wp2_with fail
    refine (mendown_any g1 n (eraseTab cs x y ⟨f, g, b⟩) k3 Wk3.out (by rw [eraseTab_len, HN.out]) hl).mono ?_
    rintro e k4 ⟨rfl, hw, ho⟩
    clear f0
    go_wp2
    go_ret
    exact ⟨g1, by rw [erase_len, HN.out]; rfl, HG.out, hw, (HO3.out.trans ho).below HB1.out HB1.out.size HG.out⟩
  · have HD := hide (HE.out hXY)
    have f0 := HQ1.out.cell 0
    simp only [List.getElem?_cons_zero] at f0
    go_wp2_with fail
    refine (mendown_any g1 n cs W1 HG1.out HN.out hl).mono ?_
    rintro e k4 ⟨rfl, hw, ho⟩
    clear f0
    go_wp2
    go_ret
    exact ⟨g1, by rw [erase_len, HN.out]; rfl, HG.out, by unfold eraseC; rw [HD.out]; exact hw, ho.below HB1.out HB1.out.size HG.out⟩
end Go.Proofs.YtkijclgbpbhglaaGreatDoor

namespace Go.Proofs.YtkijclgbpbhglaaGreatDoor
set_option maxRecDepth 100000
open Go.ChangeShapes Go.WideShapes Go.ChangeAt Go.RowKit
set_option linter.unusedVariables false

theorem OwnC.from {e : TypeId} {k : IntKind} {B : Nat} {w w1 wr : World} {v : Value} {cs : List Cel} (h : OwnC e k w1.heap.size w1 wr v cs) (hb : Below B w w1) (hB : B ≤ w1.heap.size) : OwnC e k B w wr v cs := by
  refine ⟨⟨h.own.1, ?_⟩, hb.trans (h.bel.mono hB), Nat.le_trans hB h.le⟩
  rcases h.own.2 with h0 | ⟨g, cap, cur, hv, hg, h1⟩
  · exact .inl h0
  · exact .inr ⟨g, cap, cur, hv, Nat.le_trans hB hg, h1⟩
end Go.Proofs.YtkijclgbpbhglaaGreatDoor

namespace Go.Proofs.YtkijclgbpbhglaaGreatDoor
set_option maxRecDepth 100000
open Go.ChangeShapes Go.WideShapes Go.ChangeAt Go.RowKit
set_option linter.unusedVariables false

/-- .. and told whether. -/
def Lined2 (cs : List Cel) (ok : Bool) (w : World) (e : Ending) (w' : World) : Prop := ∃ g, e = .returned (.tuple #[.slice (some ⟨g, 0, none⟩) cs.length cs.length, .bool ok]) ∧ w.heap.size ≤ g ∧ Whole w' g 73 (flatC .i32 cs) ∧ Below w.heap.size w w'
theorem lmark_no {cs : List Cel} {a r : Int} (h : ¬ (0 ≤ a ∧ a < (cs.length : Int))) : lmarkC cs a r = (cs, false) := by unfold lmarkC; rw [if_neg h]
theorem lmark_yes {cs : List Cel} {k : Nat} {r : Int} {j : Nat} {c : Cel} {ok : Bool} (h : k < cs.length) (hj : mkAt cs k = j) (hm : markC (cAt cs j) r = (c, ok)) : lmarkC cs (k : Int) r = (cs.set j c, ok) := by
  unfold lmarkC; rw [if_pos (by omega), Int.toNat_natCast, hj, hm]
theorem mkAt_same {cs : List Cel} {k : Nat} (h : wAt cs k ≠ 0) : mkAt cs k = k := by unfold mkAt; rw [if_neg (fun q => h q.1)]
theorem mkAt_alone {cs : List Cel} {k : Nat} (h : wAt cs k = 0) (ha : aloneC cs k = true) : mkAt cs k = k := by
  unfold mkAt; rw [if_neg]; rintro ⟨_, h1, h2⟩
  have : aloneC cs k = false := by unfold aloneC; rw [if_neg (by omega), if_pos h]; simp [h2]; omega
  rw [this] at ha; cases ha
theorem mkAt_not {cs : List Cel} {j : Nat} (h : wAt cs (j + 1) = 0) (ha : aloneC cs (j + 1) = false) : mkAt cs (j + 1) = j := by
  obtain ⟨h1, h2⟩ := alone_0 h ha
  unfold mkAt; rw [if_pos ⟨h, by omega, h2⟩]; rfl
theorem wAt_of {cs : List Cel} {k : Nat} {r m y : Int} {d : Nat} {p : Pn} (h : k < cs.length) (hc : cAt cs k = ⟨r, m, y, d, p⟩) : wAt cs k = d := by rw [wAt_in cs k h, hc]
set_option maxRecDepth 100000 in
set_option maxHeartbeats 2000000 in
theorem lmark_any (A : Option Addr) (n c : Nat) (at_ x : Int) (cs : List Cel) (w : World) (h : Cels .i32 w A cs) (hn : cs.length = n) (hl : n ≤ 1000000) (hS : Spans w) :
    Calls Tryz.prog 195 #[.slice A n c, .int .i64 at_, .int .i32 x] w (Lined2 (lmarkC cs at_ x).1 (lmarkC cs at_ x).2 w) := by
  have HC := hide h
  have HN := hide hn
  have HS := hide hS
  clear h hn hS
  by_cases hin : 0 ≤ at_ ∧ at_ < (n : Int)
  · obtain ⟨k, rfl⟩ : ∃ k : Nat, at_ = (k : Int) := ⟨at_.toNat, by omega⟩
    have hk : k < n := by omega
    clear hin
    by_cases h0 : wAt cs k = 0
    · cases hal : aloneC cs k
      · obtain ⟨j, rfl⟩ : ∃ j, k = j + 1 := ⟨k - 1, by have := (alone_0 h0 hal).1; omega⟩
        have HJ := hide (mkAt_not h0 hal)
        have HAL := hide hal
        have e0 : ((wAt cs (j + 1) : Int) == 0) = true := by simp; omega
        clear h0 hal
        go_enter Tryz.func195, Tryz.ntmps195
        go_wp2_with fail
        refine (copied_any A n c cs w HC.out HN.out hl).mono ?_
        rintro e w1 ⟨g, rfl, hg, hw, hb⟩
        have HW1 := hide hw
        have HB1 := hide hb
        have HG := hide hg
        have HS1 := hide (HS.out.below hb)
        clear hw hb hg
        rw [HN.out]
        have c3 := HW1.out.cels.wide (j + 1) (by rw [HN.out]; exact hk)
        simp only [Nat.zero_add] at c3
        go_wp2_with fail
        refine (alone_any (some ⟨g, 0, none⟩) n n (j + 1) cs w1 HW1.out.cels HN.out (by omega) hl).mono ?_
        rintro e w2 ⟨rfl, rfl⟩
        rw [HAL.out]
        clear c3
        obtain ⟨⟨r, m, y, d, ⟨f, z, b⟩⟩, hc⟩ : ∃ q, cAt cs j = q := ⟨_, rfl⟩
        obtain ⟨⟨⟨r1, m1, y1, d1, ⟨f1, z1, b1⟩⟩, ok⟩, hm⟩ : ∃ q, markC (cAt cs j) x = q := ⟨_, rfl⟩
        have HE := hide (lmark_yes (by rw [HN.out]; omega) HJ.out hm)
        rw [hc] at hm
        have HM := hide hm
        clear hm
        obtain ⟨a0, a1, a2, a3, a4, a5, a6, -⟩ := HW1.out.sevenC (j * 7) j rfl (by rw [HN.out]; omega) hc
        clear hc
        go_wp2_with fail
        refine (cmark_v r m y d f z b x r1 m1 y1 d1 f1 z1 b1 ok HM.out w1 HS1.out).mono ?_
        rintro e w2 ⟨rfl, hb⟩
        clear a0 a1 a2 a3 a4 a5 a6
        have HW2 := hide (HW1.out.later hb)
        have HB2 := hide (HB1.out.trans (hb.mono HB1.out.size))
        have l2 : g < w2.heap.size := (HW1.out.later hb).lt
        obtain ⟨b0, b1', b2, b3, b4, b5, b6, b7⟩ := (HW1.out.later hb).seven (j * 7) j rfl (by rw [HN.out]; omega)
        clear hb
        go_wp2
        go_ret2
        refine ⟨g, by rw [HE.out]; simp only [List.length_set]; rw [HN.out]; rfl, HG.out, ?_, ?_⟩
        · rw [HE.out]; exact (put_cell HW2.out _ j rfl (by rw [HN.out]; omega) ⟨r1, m1, y1, d1, ⟨f1, z1, b1⟩⟩).alloc _
        · have hb9 := (only_cell (j * 7) (.int .i32 r1) (.int .i32 m1) (.int .i32 y1) (.int .u8 (d1 : Int)) (.int .u8 (f1 : Int)) (.int .u8 (z1 : Int)) (.int .u8 (b1 : Int))).below HB2.out HB2.out.size HG.out
          exact hb9.alloc hb9.size _
      · have HJ := hide (mkAt_alone h0 hal)
        have HAL := hide hal
        have e0 : ((wAt cs k : Int) == 0) = true := by simp; omega
        clear h0 hal
        go_enter Tryz.func195, Tryz.ntmps195
        go_wp2_with fail
        refine (copied_any A n c cs w HC.out HN.out hl).mono ?_
        rintro e w1 ⟨g, rfl, hg, hw, hb⟩
        have HW1 := hide hw
        have HB1 := hide hb
        have HG := hide hg
        have HS1 := hide (HS.out.below hb)
        clear hw hb hg
        rw [HN.out]
        have c3 := HW1.out.cels.wide k (by rw [HN.out]; exact hk)
        simp only [Nat.zero_add] at c3
        go_wp2_with fail
        refine (alone_any (some ⟨g, 0, none⟩) n n k cs w1 HW1.out.cels HN.out (by omega) hl).mono ?_
        rintro e w2 ⟨rfl, rfl⟩
        rw [HAL.out]
        clear c3
        obtain ⟨⟨r, m, y, d, ⟨f, z, b⟩⟩, hc⟩ : ∃ q, cAt cs k = q := ⟨_, rfl⟩
        obtain ⟨⟨⟨r1, m1, y1, d1, ⟨f1, z1, b1⟩⟩, ok⟩, hm⟩ : ∃ q, markC (cAt cs k) x = q := ⟨_, rfl⟩
        have HE := hide (lmark_yes (by rw [HN.out]; omega) HJ.out hm)
        rw [hc] at hm
        have HM := hide hm
        clear hm
        obtain ⟨a0, a1, a2, a3, a4, a5, a6, -⟩ := HW1.out.sevenC (k * 7) k rfl (by rw [HN.out]; omega) hc
        clear hc
        go_wp2_with fail
        refine (cmark_v r m y d f z b x r1 m1 y1 d1 f1 z1 b1 ok HM.out w1 HS1.out).mono ?_
        rintro e w2 ⟨rfl, hb⟩
        clear a0 a1 a2 a3 a4 a5 a6
        have HW2 := hide (HW1.out.later hb)
        have HB2 := hide (HB1.out.trans (hb.mono HB1.out.size))
        have l2 : g < w2.heap.size := (HW1.out.later hb).lt
        obtain ⟨b0, b1', b2, b3, b4, b5, b6, b7⟩ := (HW1.out.later hb).seven (k * 7) k rfl (by rw [HN.out]; omega)
        clear hb
        go_wp2
        go_ret2
        refine ⟨g, by rw [HE.out]; simp only [List.length_set]; rw [HN.out]; rfl, HG.out, ?_, ?_⟩
        · rw [HE.out]; exact (put_cell HW2.out _ k rfl (by rw [HN.out]; omega) ⟨r1, m1, y1, d1, ⟨f1, z1, b1⟩⟩).alloc _
        · have hb9 := (only_cell (k * 7) (.int .i32 r1) (.int .i32 m1) (.int .i32 y1) (.int .u8 (d1 : Int)) (.int .u8 (f1 : Int)) (.int .u8 (z1 : Int)) (.int .u8 (b1 : Int))).below HB2.out HB2.out.size HG.out
          exact hb9.alloc hb9.size _
    · have HJ := hide (mkAt_same h0)
      have HZ : Hid (((wAt cs k : Int) == 0) = false) := by unfold Hid; simp; omega
      clear h0
      go_enter Tryz.func195, Tryz.ntmps195
      go_wp2_with fail
      refine (copied_any A n c cs w HC.out HN.out hl).mono ?_
      rintro e w1 ⟨g, rfl, hg, hw, hb⟩
      have HW1 := hide hw
      have HB1 := hide hb
      have HG := hide hg
      have HS1 := hide (HS.out.below hb)
      clear hw hb hg
      rw [HN.out]
      obtain ⟨⟨r, m, y, d, ⟨f, z, b⟩⟩, hc⟩ : ∃ q, cAt cs k = q := ⟨_, rfl⟩
      obtain ⟨⟨⟨r1, m1, y1, d1, ⟨f1, z1, b1⟩⟩, ok⟩, hm⟩ : ∃ q, markC (cAt cs k) x = q := ⟨_, rfl⟩
      have HE := hide (lmark_yes (by rw [HN.out]; omega) HJ.out hm)
      rw [hc] at hm
      have HM := hide hm
      clear hm
      obtain ⟨a0, a1, a2, a3, a4, a5, a6, -⟩ := HW1.out.sevenC (k * 7) k rfl (by rw [HN.out]; omega) hc
      have e0 : ((d : Int) == 0) = false := by rw [← wAt_of (by rw [HN.out]; exact hk) hc]; exact HZ.out
      clear hc
      go_wp2_with fail
      refine (cmark_v r m y d f z b x r1 m1 y1 d1 f1 z1 b1 ok HM.out w1 HS1.out).mono ?_
      rintro e w2 ⟨rfl, hb⟩
      clear a0 a1 a2 a3 a4 a5 a6
      have HW2 := hide (HW1.out.later hb)
      have HB2 := hide (HB1.out.trans (hb.mono HB1.out.size))
      have l2 : g < w2.heap.size := (HW1.out.later hb).lt
      obtain ⟨b0, b1', b2, b3, b4, b5, b6, b7⟩ := (HW1.out.later hb).seven (k * 7) k rfl (by rw [HN.out]; omega)
      clear hb
      go_wp2
      go_ret2
      refine ⟨g, by rw [HE.out]; simp only [List.length_set]; rw [HN.out]; rfl, HG.out, ?_, ?_⟩
      · rw [HE.out]; exact (put_cell HW2.out _ k rfl (by rw [HN.out]; omega) ⟨r1, m1, y1, d1, ⟨f1, z1, b1⟩⟩).alloc _
      · have hb9 := (only_cell (k * 7) (.int .i32 r1) (.int .i32 m1) (.int .i32 y1) (.int .u8 (d1 : Int)) (.int .u8 (f1 : Int)) (.int .u8 (z1 : Int)) (.int .u8 (b1 : Int))).below HB2.out HB2.out.size HG.out
        exact hb9.alloc hb9.size _
  · have HE := hide (lmark_no (r := x) (by rw [HN.out]; exact hin))
    by_cases h0 : at_ < 0
    · clear hin
      go_enter Tryz.func195, Tryz.ntmps195
      go_wp2_with fail
      refine (copied_any A n c cs w HC.out HN.out hl).mono ?_
      rintro e w1 ⟨g, rfl, hg, hw, hb⟩
      have HW1 := hide hw
      have HB1 := hide hb
      have HG := hide hg
      have HS1 := hide (HS.out.below hb)
      clear hw hb hg
      rw [HN.out]
      go_wp2
      go_ret2
      exact ⟨g, by rw [HE.out]; simp only; rw [HN.out]; rfl, HG.out, by rw [HE.out]; exact HW1.out, HB1.out⟩
    · have h1 : (n : Int) ≤ at_ := by omega
      clear hin
      go_enter Tryz.func195, Tryz.ntmps195
      go_wp2_with fail
      refine (copied_any A n c cs w HC.out HN.out hl).mono ?_
      rintro e w1 ⟨g, rfl, hg, hw, hb⟩
      have HW1 := hide hw
      have HB1 := hide hb
      have HG := hide hg
      have HS1 := hide (HS.out.below hb)
      clear hw hb hg
      rw [HN.out]
      go_wp2
      go_ret2
      exact ⟨g, by rw [HE.out]; simp only; rw [HN.out]; rfl, HG.out, by rw [HE.out]; exact HW1.out, HB1.out⟩
end Go.Proofs.YtkijclgbpbhglaaGreatDoor
