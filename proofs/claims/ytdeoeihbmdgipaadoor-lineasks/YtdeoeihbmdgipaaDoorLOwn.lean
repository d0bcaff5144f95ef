/-
  Contracts: a line in memory of its own, filled, mended.
-/
import Derived.Test.YtdeoeihbmdgipaaDoorLLaws
import Derived.Test.YtdeoeihbmdgipaaDoorLAlone
import Derived.Test.YtdeoeihbmdgipaaDoorCLaw
namespace Go.Proofs.YtdeoeihbmdgipaaDoor
open Go.ChangeShapes Go.WideShapes Go.ChangeAt Go.RowKit
set_option linter.unusedVariables false
/-- The call made this line in a block of its own, and left all that was there. -/
def Lined (cs : List Cel) (w : World) (e : Ending) (w' : World) : Prop := ∃ g, e = .returned (.slice (some ⟨g, 0, none⟩) cs.length cs.length) ∧ w.heap.size ≤ g ∧ Whole w' g 27 (flatC .i32 cs) ∧ Below w.heap.size w w'
theorem lay_zero (n : Nat) (cs : List Cel) (h : cs.length = n) : layC (List.replicate n zeroC) 0 (cs.take n) = cs := by
  subst h; unfold layC; simp
set_option maxRecDepth 100000 in
set_option maxHeartbeats 400000 in
theorem copied_any (A : Option Addr) (n c : Nat) (cs : List Cel) (w : World) (h : Cels .i32 w A cs) (hn : cs.length = n) (hl : n ≤ 1000000) : Calls Tryd.prog 33 #[.slice A n c] w (Lined cs w) := by
  have HC := hide h
  have HN := hide hn
  clear h hn
  go_enter Tryd.func33, Tryd.ntmps33
  go_wp2_with (at_make; refine stopw ?_)
  unfold Hid
  refine wpList_makeL elemL rfl _ _ rfl n rfl rfl hl (by omega) ?_
  intro w1 hw1 hb1
  have HW1 := hide hw1
  have HB1 := hide hb1
  clear hw1 hb1
  obtain ⟨w2, hrun, hw2, ho2⟩ := run_copyL elemL w1 3 w.heap.size 0 27 (List.replicate n zeroC) cs A n n n c HW1.out (HC.out.below HB1.out) HN.out (by simp)
  rw [Nat.zero_mul] at hrun
  rw [lay_zero n cs HN.out] at hw2
  have HW2 := hide hw2
  have HB2 := hide (ho2.below HB1.out HB1.out.size (Nat.le_refl _))
  clear hw2 ho2
  go_wp2
  go_ret
  exact ⟨_, by rw [HN.out]; rfl, Nat.le_refl _, HW2.out, HB2.out⟩
theorem set7 {α : Type} (L : List α) (o : Nat) (h : o + 7 ≤ L.length) (v0 v1 v2 v3 v4 v5 v6 : α) : ((((((L.set o v0).set (o + 1) v1).set (o + 2) v2).set (o + 3) v3).set (o + 4) v4).set (o + 5) v5).set (o + 6) v6 = L.take o ++ ([v0, v1, v2, v3, v4, v5, v6] ++ L.drop (o + 7)) := by
  apply List.ext_getElem?
  intro i
  by_cases h1 : i < o
  · rw [List.getElem?_append_left (by simp; omega), List.getElem?_take, if_pos h1]
    simp only [List.getElem?_set, List.length_set]
    simp [show ¬ o = i by omega, show ¬ o + 1 = i by omega, show ¬ o + 2 = i by omega, show ¬ o + 3 = i by omega, show ¬ o + 4 = i by omega, show ¬ o + 5 = i by omega, show ¬ o + 6 = i by omega]
  · obtain ⟨d, rfl⟩ : ∃ d, i = o + d := ⟨i - o, by omega⟩
    have hl : (L.take o).length = o := by simp; omega
    rw [List.getElem?_append_right (by omega), hl, show o + d - o = d by omega]
    simp only [List.getElem?_set, List.length_set]
    match d with
    | 0 => simp; omega
    | 1 => simp; omega
    | 2 => simp; omega
    | 3 => simp; omega
    | 4 => simp; omega
    | 5 => simp; omega
    | 6 => simp; omega
    | d + 7 =>
      rw [List.getElem?_append_right (by simp), List.getElem?_drop]
      simp
      congr 1
      omega
theorem put_cell {k : IntKind} {w : World} {g : Nat} {t : TypeId} {ds : List Cel} (h : Whole w g t (flatC k ds)) (o j : Nat) (ho : o = j * 7) (hj : j < ds.length) (c : Cel) :
    Whole (((((((w.setCell ⟨g, o, none⟩ (.int k c.r)).setCell ⟨g, o + 1, none⟩ (.int k c.m)).setCell ⟨g, o + 2, none⟩ (.int k c.n)).setCell ⟨g, o + 3, none⟩ (.int .u8 (c.w : Int))).setCell ⟨g, o + 4, none⟩ (.int .u8 (c.p.f : Int))).setCell ⟨g, o + 5, none⟩ (.int .u8 (c.p.g : Int))).setCell ⟨g, o + 6, none⟩ (.int .u8 (c.p.b : Int))) g t (flatC k (ds.set j c)) := by
  have e := ((((((h.put o (.int k c.r)).put (o + 1) (.int k c.m)).put (o + 2) (.int k c.n)).put (o + 3) (.int .u8 (c.w : Int))).put (o + 4) (.int .u8 (c.p.f : Int))).put (o + 5) (.int .u8 (c.p.g : Int))).put (o + 6) (.int .u8 (c.p.b : Int))
  rw [set7 _ o (by rw [flatC_len]; omega)] at e
  rw [set_lay ds j c hj, flat_lay]
  subst ho
  exact e
theorem only_cell {w : World} {g : Nat} (o : Nat) (x0 x1 x2 x3 x4 x5 x6 : Value) : Only g w (((((((w.setCell ⟨g, o, none⟩ x0).setCell ⟨g, o + 1, none⟩ x1).setCell ⟨g, o + 2, none⟩ x2).setCell ⟨g, o + 3, none⟩ x3).setCell ⟨g, o + 4, none⟩ x4).setCell ⟨g, o + 5, none⟩ x5).setCell ⟨g, o + 6, none⟩ x6) :=
  ((((((Only.put _ _).trans (Only.put _ _)).trans (Only.put _ _)).trans (Only.put _ _)).trans (Only.put _ _)).trans (Only.put _ _)).trans (Only.put _ _)
/-- What the walk wants to know of a cell in a row known whole. -/
theorem Whole.seven {k : IntKind} {w : World} {g : Nat} {t : TypeId} {ds : List Cel} (h : Whole w g t (flatC k ds)) (o j : Nat) (ho : o = j * 7) (hj : j < ds.length) :
    w.cell? ⟨g, o, none⟩ = some (.int k (cAt ds j).r) ∧ w.cell? ⟨g, o + 1, none⟩ = some (.int k (cAt ds j).m) ∧ w.cell? ⟨g, o + 2, none⟩ = some (.int k (cAt ds j).n) ∧ w.cell? ⟨g, o + 3, none⟩ = some (.int .u8 ((cAt ds j).w : Int)) ∧ w.cell? ⟨g, o + 4, none⟩ = some (.int .u8 ((cAt ds j).p.f : Int)) ∧ w.cell? ⟨g, o + 5, none⟩ = some (.int .u8 ((cAt ds j).p.g : Int)) ∧ w.cell? ⟨g, o + 6, none⟩ = some (.int .u8 ((cAt ds j).p.b : Int)) ∧ ∀ i, w.frozen? ⟨g, i, none⟩ = false := by
  subst ho
  have key : ∀ d v, d < 7 → (cellL k (cAt ds j))[d]? = some v → w.cell? ⟨g, j * 7 + d, none⟩ = some v := by
    intro d v hd hv
    rw [h.cell, flatC_get k ds j d hd, get_cAt ds j hj]
    exact hv
  exact ⟨key 0 _ (by omega) rfl, key 1 _ (by omega) rfl, key 2 _ (by omega) rfl, key 3 _ (by omega) rfl, key 4 _ (by omega) rfl, key 5 _ (by omega) rfl, key 6 _ (by omega) rfl, h.frozen⟩
/-- ds, k cells from p on being c. -/
def fillC (ds : List Cel) (p k : Nat) (c : Cel) : List Cel := tab ds.length (fun i => if p ≤ i ∧ i < p + k then c else cAt ds i)
theorem fill_len (ds : List Cel) (p k : Nat) (c : Cel) : (fillC ds p k c).length = ds.length := tab_len _ _
theorem fill_0 (ds : List Cel) (p : Nat) (c : Cel) : fillC ds p 0 c = ds := by
  unfold fillC
  conv => rhs; rw [← tab_self ds]
  exact tab_eq fun i _ => by rw [if_neg (by omega)]
theorem fill_next (ds : List Cel) (p k : Nat) (c : Cel) : fillC ds p (k + 1) c = (fillC ds p k c).set (p + k) c := by
  unfold fillC
  rw [tab_set]
  refine tab_eq fun i _ => ?_
  by_cases h : i = p + k
  · rw [if_pos (by omega), if_pos h]
  · rw [if_neg h]
    by_cases h2 : p ≤ i ∧ i < p + k
    · rw [if_pos (by omega), if_pos h2]
    · rw [if_neg (by omega), if_neg h2]
set_option maxRecDepth 100000 in
set_option maxHeartbeats 1000000 in
theorem fill_any (g p n cap : Nat) (r m x : Int) (d f y b : Nat) (ds : List Cel) (w : World) (h : Whole w g 27 (flatC .i32 ds)) (hp : p + n ≤ ds.length) (hl : ds.length ≤ 1000000) :
    Calls Tryd.prog 46 #[.slice (some ⟨g, p * 7, none⟩) n cap, .agg #[.int .i32 r, .int .i32 m, .int .i32 x, .int .u8 (d : Int), .int .u8 (f : Int), .int .u8 (y : Int), .int .u8 (b : Int)]] w fun e w' => e = .returned (.tuple #[]) ∧ Whole w' g 27 (flatC .i32 (fillC ds p n ⟨r, m, x, d, ⟨f, y, b⟩⟩)) ∧ Only g w w' := by
  obtain ⟨W0, hW0⟩ : ∃ W0, w.alloc (.cells #[.int .i32 r, .int .i32 m, .int .i32 x, .int .u8 (d : Int), .int .u8 (f : Int), .int .u8 (y : Int), .int .u8 (b : Int)] 27) = W0 := ⟨_, rfl⟩
  have HA : Hid (Whole W0 w.heap.size 27 [.int .i32 r, .int .i32 m, .int .i32 x, .int .u8 (d : Int), .int .u8 (f : Int), .int .u8 (y : Int), .int .u8 (b : Int)]) := by unfold Hid; rw [← hW0]; exact Whole.new w 27 [.int .i32 r, .int .i32 m, .int .i32 x, .int .u8 (d : Int), .int .u8 (f : Int), .int .u8 (y : Int), .int .u8 (b : Int)]
  have HG : Hid (Whole W0 g 27 (flatC .i32 ds)) := by unfold Hid; rw [← hW0]; exact h.alloc _
  have HO : Hid (Only g w W0) := by unfold Hid; rw [← hW0]; exact Only.of_below ((Below.refl _ _).alloc (Nat.le_refl _) _)
  have HL : Hid (g < w.heap.size) := h.lt
  have HW0 := hide hW0
  clear hW0 h
  obtain ⟨P, hP⟩ : ∃ P, p * 7 = P := ⟨_, rfl⟩
  rw [hP]
  have HP := hide hP
  clear hP
  go_enter Tryd.func46, Tryd.ntmps46
  go_wp2
  rw [HW0.out]
  go_loopw [4, 7] (fun _ i wr => ∃ k : Nat, k ≤ n ∧ i = .int .i64 k ∧ Whole wr g 27 (flatC .i32 (fillC ds p k ⟨r, m, x, d, ⟨f, y, b⟩⟩)) ∧ Only g W0 wr) (fun _ i _ => n - (intOf i).toNat)
  case atStart => exact ⟨0, Nat.zero_le _, rfl, by rw [fill_0]; exact HG.out, Only.refl⟩
  case round =>
    obtain ⟨k, hk, rfl, hw, ho⟩ := hrel
    by_cases hlt : k < n
    · obtain ⟨a0, a1, a2, a3, a4, a5, a6, -⟩ := cells7 (HA.out.far ho (by have := HL.out; omega))
      obtain ⟨b0, b1, b2, b3, b4, b5, b6, b7⟩ := hw.seven (P + k * 7) (p + k) (by rw [← HP.out]; omega) (by rw [fill_len]; omega)
      have HV := hide hw
      have HOO := hide ho
      clear hw ho
      go_wp2
      go_roundw
      case rel => exact ⟨k + 1, by omega, by go_num, by rw [fill_next]; exact put_cell HV.out _ (p + k) (by rw [← HP.out]; omega) (by rw [fill_len]; omega) ⟨r, m, x, d, ⟨f, y, b⟩⟩, HOO.out.trans (only_cell _ _ _ _ _ _ _ _)⟩
      case measure => simp [intOf]; omega
    · have HV := hide hw
      have HOO := hide ho
      clear hw ho
      obtain rfl : k = n := by omega
      go_wp2
      exact bodyPost_end (v := .tuple #[]) (by simp [results, Tryd.results46]) rfl ⟨rfl, HV.out, HO.out.trans HOO.out⟩
/-- A cell of a row known whole, as the walk wants it. -/
theorem Whole.sevenC {k : IntKind} {w : World} {g : Nat} {t : TypeId} {ds : List Cel} (h : Whole w g t (flatC k ds)) (o j : Nat) (ho : o = j * 7) (hj : j < ds.length) {r m x : Int} {d f y b : Nat} (hc : cAt ds j = ⟨r, m, x, d, ⟨f, y, b⟩⟩) :
    w.cell? ⟨g, o, none⟩ = some (.int k r) ∧ w.cell? ⟨g, o + 1, none⟩ = some (.int k m) ∧ w.cell? ⟨g, o + 2, none⟩ = some (.int k x) ∧ w.cell? ⟨g, o + 3, none⟩ = some (.int .u8 (d : Int)) ∧ w.cell? ⟨g, o + 4, none⟩ = some (.int .u8 (f : Int)) ∧ w.cell? ⟨g, o + 5, none⟩ = some (.int .u8 (y : Int)) ∧ w.cell? ⟨g, o + 6, none⟩ = some (.int .u8 (b : Int)) ∧ ∀ i, w.frozen? ⟨g, i, none⟩ = false := by
  have := h.seven o j ho hj
  rw [hc] at this
  exact this
/-- A cell of a slice that is read. -/
theorem Cels.sevenC {k : IntKind} {w : World} {g off : Nat} {ds : List Cel} (h : Cels k w (some ⟨g, off, none⟩) ds) (j : Nat) (hj : j < ds.length) {r m x : Int} {d f y b : Nat} (hc : cAt ds j = ⟨r, m, x, d, ⟨f, y, b⟩⟩) :
    w.cell? ⟨g, off + j * 7, none⟩ = some (.int k r) ∧ w.cell? ⟨g, off + j * 7 + 1, none⟩ = some (.int k m) ∧ w.cell? ⟨g, off + j * 7 + 2, none⟩ = some (.int k x) ∧ w.cell? ⟨g, off + j * 7 + 3, none⟩ = some (.int .u8 (d : Int)) ∧ w.cell? ⟨g, off + j * 7 + 4, none⟩ = some (.int .u8 (f : Int)) ∧ w.cell? ⟨g, off + j * 7 + 5, none⟩ = some (.int .u8 (y : Int)) ∧ w.cell? ⟨g, off + j * 7 + 6, none⟩ = some (.int .u8 (b : Int)) ∧ g < w.heap.size := by
  obtain ⟨b', off', e, hb, key⟩ := h.at hj
  cases e
  rw [hc] at key
  exact ⟨key 0 _ rfl, key 1 _ rfl, key 2 _ rfl, key 3 _ rfl, key 4 _ rfl, key 5 _ rfl, key 6 _ rfl, hb⟩
set_option maxRecDepth 100000 in
set_option maxHeartbeats 2000000 in
theorem mendown_any (g n : Nat) (ds : List Cel) (w : World) (h : Whole w g 27 (flatC .i32 ds)) (hn : ds.length = n) (hl : n ≤ 1000000) :
    Calls Tryd.prog 37 #[.slice (some ⟨g, 0, none⟩) n n] w fun e w' => e = .returned (.slice (some ⟨g, 0, none⟩) n n) ∧ Whole w' g 27 (flatC .i32 (mendC ds)) ∧ Only g w w' := by
  have HG := hide h
  have HN := hide hn
  clear h hn
  go_enter Tryd.func37, Tryd.ntmps37
  go_wp2
  go_loopw [3, 4, 7] (fun _ _ i wr => ∃ k : Nat, k ≤ n ∧ i = .int .i64 k ∧ Whole wr g 27 (flatC .i32 (mixC ds k)) ∧ Only g w wr) (fun _ _ i _ => n - (intOf i).toNat)
  case atStart => exact ⟨0, Nat.zero_le _, rfl, by rw [mix_0]; exact HG.out, Only.refl⟩
  case round =>
    obtain ⟨k, hk, rfl, hw, ho⟩ := hrel
    have HV := hide hw
    have HOO := hide ho
    clear hw ho
    by_cases hlt : k < n
    · obtain ⟨⟨r, m, x, d, ⟨f, y, b⟩⟩, hc⟩ : ∃ c, cAt (mixC ds k) k = c := ⟨_, rfl⟩
      have HM : Hid (cAt ds k = ⟨r, m, x, d, ⟨f, y, b⟩⟩) := by unfold Hid; rw [← hc, mix_self ds k (by rw [HN.out]; exact hlt)]
      obtain ⟨a0, a1, a2, a3, a4, a5, a6, -⟩ := HV.out.sevenC (k * 7) k rfl (by rw [mix_len, HN.out]; exact hlt) hc
      obtain ⟨W1, hW1⟩ : ∃ W1, wr.alloc (.cells #[.int .i32 r, .int .i32 m, .int .i32 x, .int .u8 (d : Int), .int .u8 (f : Int), .int .u8 (y : Int), .int .u8 (b : Int)] 27) = W1 := ⟨_, rfl⟩
      have HA : Hid (Whole W1 wr.heap.size 27 [.int .i32 r, .int .i32 m, .int .i32 x, .int .u8 (d : Int), .int .u8 (f : Int), .int .u8 (y : Int), .int .u8 (b : Int)]) := by unfold Hid; rw [← hW1]; exact Whole.new wr 27 [.int .i32 r, .int .i32 m, .int .i32 x, .int .u8 (d : Int), .int .u8 (f : Int), .int .u8 (y : Int), .int .u8 (b : Int)]
      have HG1 : Hid (Whole W1 g 27 (flatC .i32 (mixC ds k))) := by unfold Hid; rw [← hW1]; exact HV.out.alloc _
      have HO1 : Hid (Only g w W1) := by unfold Hid; rw [← hW1]; exact HOO.out.trans (Only.of_below ((Below.refl _ _).alloc (Nat.le_refl _) _))
      have HL : Hid (g < wr.heap.size) := HV.out.lt
      have HW1 := hide hW1
      have HAL := hide (mix_alone ds k (by rw [HN.out]; exact hlt))
      clear hW1 hc HV HOO
      go_wp2_with fail
      rw [HW1.out]
      refine (alone_any (some ⟨g, 0, none⟩) n n k (mixC ds k) W1 HG1.out.cels (by rw [mix_len, HN.out]) hlt hl).mono ?_
      rintro e w1 ⟨rfl, rfl⟩
      rw [HAL.out]
      clear a0 a1 a2 a3 a4 a5 a6
      cases hal : aloneC ds k
      case false =>
        have HS := hide (mix_stay ds k (by rw [HN.out]; exact hlt) hal)
        clear hal
        go_wp2
        go_roundw
        case rel => exact ⟨k + 1, by omega, by go_num, by rw [HS.out]; exact HG1.out, HO1.out⟩
        case measure => simp [intOf]; omega
      case true =>
        have HS : Hid (mixC ds (k + 1) = (mixC ds k).set k ⟨32, 0, 0, 1, ⟨f, y, b⟩⟩) := by unfold Hid; rw [mix_next, mendAt_yes ds k hal, HM.out]; rfl
        clear hal
        obtain ⟨a0, a1, a2, a3, a4, a5, a6, -⟩ := cells7 HA.out
        go_wp2_with fail
        refine (blank_v f y b W1).mono ?_
        rintro e w2 ⟨rfl, hb⟩
        clear a0 a1 a2 a3 a4 a5 a6
        have HG2 := hide (HG1.out.later hb)
        have HO2 := hide (HO1.out.trans (Only.of_below hb))
        clear hb
        obtain ⟨b0, b1, b2, b3, b4, b5, b6, b7⟩ := HG2.out.seven (k * 7) k rfl (by rw [mix_len, HN.out]; exact hlt)
        go_wp2
        go_roundw
        case rel => exact ⟨k + 1, by omega, by go_num, by rw [HS.out]; exact put_cell HG2.out _ k rfl (by rw [mix_len, HN.out]; exact hlt) ⟨32, 0, 0, 1, ⟨f, y, b⟩⟩, HO2.out.trans (only_cell _ _ _ _ _ _ _ _)⟩
        case measure => simp [intOf]; omega
    · go_wp2
      go_ret
      exact ⟨rfl, by rw [← mix_all ds k (by rw [HN.out]; omega)]; exact HV.out, HOO.out⟩
end Go.Proofs.YtdeoeihbmdgipaaDoor
