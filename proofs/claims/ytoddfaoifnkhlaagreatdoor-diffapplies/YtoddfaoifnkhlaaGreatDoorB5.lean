/-
  Contracts and plain mathematics of Rws, CRunes, CLaw, LOwn, COk, LRef, LRef2, LNew, LErase, LRef3.
-/
import Derived.Test.YtoddfaoifnkhlaaGreatDoorB1
import Derived.Test.YtoddfaoifnkhlaaGreatDoorB4
import Derived.Test.YtoddfaoifnkhlaaGreatDoorB3
namespace Go.Proofs.YtoddfaoifnkhlaaGreatDoor
set_option maxRecDepth 100000
set_option linter.unusedVariables false
set_option maxHeartbeats 8000000
section
open Go.ChangeShapes Go.WideShapes Go.ChangeAt Go.RowKit
def Cl (te : TypeId) (k : IntKind) (B : Nat) (w : World) (x : Value) (z : List Int) : Prop := w.ownsRow B te 1 x z.length (z.map (Value.int k))
section
variable {te e : TypeId} {k : IntKind} {B : Nat} {w w' wr : World} {x v : Value} {z : List Int}
theorem Own.cl (h : Own te k B w wr x z) : Cl te k B wr x z := h.own
theorem Cl.less {C : Nat} (h : Cl te k B w x z) (hC : C ≤ B) : Cl te k C w x z := by
 refine ⟨h.1, ?_⟩
 rcases h.2 with h0 | ⟨g, cap, cur, hv, hB, h1⟩
 ·exact .inl h0
 ·exact .inr ⟨g, cap, cur, hv, Nat.le_trans hC hB, h1⟩
theorem Cl.keep (h : Cl te k B w x z) (hb : ∀ (g : Nat) (cur : Array Value), w.heap[g]? = some (Obj.cells cur te (0, 0)) → w'.heap[g]? = w.heap[g]?) : Cl te k B w' x z := by
 refine ⟨h.1, ?_⟩
 rcases h.2 with h0 | ⟨g, cap, cur, hv, hB, hh, h1⟩
 ·exact .inl h0
 ·exact .inr ⟨g, cap, cur, hv, hB, (hb g cur hh).trans hh, h1⟩
theorem Cl.later (h : Cl te k B w x z) (hb : Below w.heap.size w w') : Cl te k B w' x z := h.keep fun g cur hh => hb.block g (Array.getElem?_eq_some_iff.1 hh).1
theorem Cl.alloc (h : Cl te k B w x z) (o : Obj) : Cl te k B (w.alloc o) x z := h.keep fun g cur hh => Below.heap_alloc w o g (Array.getElem?_eq_some_iff.1 hh).1
theorem Cl.one (h : Cl te k B w x z) : x.oneCell' = true := by
 rcases h.2 with ⟨rfl, _⟩ | ⟨g, cap, cur, rfl, _⟩ <;> rfl
theorem Cl.form (h : Cl te k B w x z) : ∃ A cap, x = .slice A z.length cap ∧ Ints k w A z ∧ z.length ≤ cap ∧ (A = none → cap = 0) ∧ cap ≤ maxLen :=
 Own.form2 (w := w) (B := min B w.heap.size) ⟨h.less (Nat.min_le_left _ _), Below.refl _ _, Nat.min_le_right _ _⟩
end
structure Rws (e te : TypeId) (k : IntKind) (B : Nat) (w wr : World) (v : Value) (zss : List (List Int)) : Prop where
 row : ∃ xs : List Value, wr.ownsRow B e 1 v zss.length xs ∧ ∀ (i : Nat) (x : Value) (z : List Int), xs[i]? = some x → zss[i]? = some z → Cl te k B wr x z
 bel : Below B w wr
 le : B ≤ wr.heap.size
section
variable {te e : TypeId} {k : IntKind} {B : Nat} {w wr w1 : World} {v : Value} {zss : List (List Int)}
theorem Rws.start (hB : B ≤ w.heap.size) : Rws e te k B w w (.slice none 0 0) [] := ⟨⟨[], World.ownsRow_nil _ _ _ _, fun i x z h => by simp at h⟩, Below.refl _ _, hB⟩
theorem Rws.later (h : Rws e te k B w wr v zss) (hb : Below wr.heap.size wr w1) : Rws e te k B w w1 v zss := by
 obtain ⟨xs, ho, hc⟩ := h.row
 refine ⟨⟨xs, ⟨ho.1, ?_⟩, fun i x z h1 h2 => (hc i x z h1 h2).later hb⟩, h.bel.trans (hb.mono h.le), Nat.le_trans h.le hb.size⟩
 rcases ho.2 with h0 | ⟨g, cap, cur, hv, hB, hh, h1⟩
 ·exact .inl h0
 ·exact .inr ⟨g, cap, cur, hv, hB, by rw [hb.block g (Array.getElem?_eq_some_iff.1 hh).1, hh], h1⟩
theorem Rws.alloc (h : Rws e te k B w wr v zss) (o : Obj) : Rws e te k B w (wr.alloc o) v zss := h.later ((Below.refl _ _).alloc (Nat.le_refl _) _)
theorem Rws.form (h : Rws e te k B w wr v zss) : ∃ A cap, v = .slice A zss.length cap ∧ zss.length ≤ cap ∧ (A = none → cap = 0) ∧
  ∀ (i : Nat) (z : List Int), zss[i]? = some z → ∃ g A' c', A = some ⟨g, 0, none⟩ ∧ g < wr.heap.size ∧ wr.cell? ⟨g, 0 + i, none⟩ = some (.slice A' z.length c') ∧ Ints k wr A' z ∧ z.length ≤ c' ∧ (A' = none → c' = 0) ∧ c' ≤ maxLen := by
 obtain ⟨xs, ho, hc⟩ := h.row
 have hxl : xs.length = zss.length := by have := ho.1; omega
 rcases ho.2 with ⟨rfl, h0⟩ | ⟨g, cap, cur, rfl, _, hh, hcap, hm, _, _⟩
 ·have : zss = [] := List.eq_nil_of_length_eq_zero h0
  subst this
  exact ⟨none, 0, rfl, Nat.le_refl _, (fun _ => rfl), fun i z hz => by simp at hz⟩
 ·refine ⟨_, cap, rfl, hcap, (fun h => by cases h), fun i z hz => ?_⟩
  have hi : i < zss.length := (List.getElem?_eq_some_iff.1 hz).1
  have hx : xs[i]? = some xs[i] := List.getElem?_eq_getElem (by omega)
  obtain ⟨A', c', e1, h1, h2, h3, h4⟩ := (hc i _ z hx hz).form
  have hcell := ho.cellAt i (by omega)
  refine ⟨g, A', c', rfl, (Array.getElem?_eq_some_iff.1 hh).1, ?_, h1, h2, h3, h4⟩
  rw [Nat.zero_add, hcell, hx, e1]
end
structure ElemR (P : Program) (S e : TypeId) : Prop where
 under : P.underlying S = some (.slice e)
 info : (P.info? e).map (fun i => (i.zero, i.size, i.bytes)) = some (some (.slice none 0 0), 1, 24)
theorem Own.from {e : TypeId} {k : IntKind} {B : Nat} {w w1 wr : World} {v : Value} {bs : List Int} (h : Own e k w1.heap.size w1 wr v bs) (hb : Below B w w1) (hB : B ≤ w1.heap.size) : Own e k B w wr v bs :=
 ⟨h.cl.less hB, hb.trans (h.bel.mono hB), Nat.le_trans hB h.le⟩
def Gave (v : Value) (w : World) (e : Ending) (w' : World) : Prop := e = .returned v ∧ Below w.heap.size w w'
theorem lof_v (r m n : Int) (d f g b : Nat) (hr : R32 r) (hm : R32 m) (hn : R32 n) (w : World) : Calls Tryz.prog 62 #[.agg #[.int .i32 r, .int .i32 m, .int .i32 n, .int .u8 d, .int .u8 f, .int .u8 g, .int .u8 b]] w (Gave (.agg #[.int .i64 r, .int .i64 m, .int .i64 n, .int .u8 d, .int .u8 f, .int .u8 g, .int .u8 b]) w) := lof_any r m n d f g b hr hm hn w
theorem blank_v (f g b : Nat) (w : World) : Calls Tryz.prog 106 #[.agg #[.int .u8 f, .int .u8 g, .int .u8 b]] w (Gave (.agg #[.int .i32 32, .int .i32 0, .int .i32 0, .int .u8 1, .int .u8 f, .int .u8 g, .int .u8 b]) w) := blank_any f g b w
theorem rblank_v (f g b : Nat) (w : World) : Calls Tryz.prog 108 #[.agg #[.int .u8 f, .int .u8 g, .int .u8 b]] w (Gave (.agg #[.int .i64 32, .int .i64 0, .int .i64 0, .int .u8 1, .int .u8 f, .int .u8 g, .int .u8 b]) w) := rblank_any f g b w
theorem rest_v (r m n : Int) (d f g b : Nat) (w : World) : Calls Tryz.prog 93 #[.agg #[.int .i32 r, .int .i32 m, .int .i32 n, .int .u8 d, .int .u8 f, .int .u8 g, .int .u8 b]] w (Gave (.agg #[.int .i32 0, .int .i32 0, .int .i32 0, .int .u8 0, .int .u8 f, .int .u8 g, .int .u8 b]) w) := rest_any r m n d f g b w
theorem rrest_v (r m n : Int) (d f g b : Nat) (w : World) : Calls Tryz.prog 116 #[.agg #[.int .i64 r, .int .i64 m, .int .i64 n, .int .u8 d, .int .u8 f, .int .u8 g, .int .u8 b]] w (Gave (.agg #[.int .i64 0, .int .i64 0, .int .i64 0, .int .u8 0, .int .u8 f, .int .u8 g, .int .u8 b]) w) := rrest_any r m n d f g b w
theorem cmark_v (r m n : Int) (d f g b : Nat) (x : Int) (r' m' n' : Int) (d' f' g' b' : Nat) (ok : Bool) (h : markC ⟨r, m, n, d, ⟨f, g, b⟩⟩ x = (⟨r', m', n', d', ⟨f', g', b'⟩⟩, ok)) (w : World) (hS : Spans w) : Calls Tryz.prog 118 #[.agg #[.int .i32 r, .int .i32 m, .int .i32 n, .int .u8 d, .int .u8 f, .int .u8 g, .int .u8 b], .int .i32 x] w (Gave (.tuple #[.agg #[.int .i32 r', .int .i32 m', .int .i32 n', .int .u8 d', .int .u8 f', .int .u8 g', .int .u8 b'], .bool ok]) w) := by
 have := cmark_any r m n d f g b x w hS
 rw [h] at this
 exact this
theorem rcmark_v (r m n : Int) (d f g b : Nat) (x : Int) (r' m' n' : Int) (d' f' g' b' : Nat) (ok : Bool) (h : markC ⟨r, m, n, d, ⟨f, g, b⟩⟩ x = (⟨r', m', n', d', ⟨f', g', b'⟩⟩, ok)) (w : World) : Calls Tryz.prog 117 #[.agg #[.int .i64 r, .int .i64 m, .int .i64 n, .int .u8 d, .int .u8 f, .int .u8 g, .int .u8 b], .int .i64 x] w (Gave (.tuple #[.agg #[.int .i64 r', .int .i64 m', .int .i64 n', .int .u8 d', .int .u8 f', .int .u8 g', .int .u8 b'], .bool ok]) w) := by
 have := rcmark_any r m n d f g b x w
 rw [h] at this
 exact this
theorem r32_0 : R32 0 := by unfold R32; omega
theorem mark_r32 {x r m n : Int} {d : Nat} {p : Pn} {r' m' n' : Int} {d' : Nat} {q : Pn} {ok : Bool} (hx : R32 x) (hr : R32 r) (hm : R32 m) (hn : R32 n) (hd : d < 256) (h : markC ⟨r, m, n, d, p⟩ x = (⟨r', m', n', d', q⟩, ok)) : R32 r' ∧ R32 m' ∧ R32 n' ∧ d' < 256 := by
 unfold markC at h
 split at h
 ·split at h
  ·cases h; exact ⟨hr, hx, hn, hd⟩
  ·split at h
   ·cases h; exact ⟨hr, hm, hx, hd⟩
   ·cases h; exact ⟨hr, hm, hn, hd⟩
 ·cases h; exact ⟨hr, hm, hn, hd⟩
theorem cells3 {w : World} {q : Nat} {t : TypeId} {x0 x1 x2 : Value} (h : Whole w q t [x0, x1, x2]) : w.cell? ⟨q, 0, none⟩ = some x0 ∧ w.cell? ⟨q, 1, none⟩ = some x1 ∧ w.cell? ⟨q, 2, none⟩ = some x2 ∧ q < w.heap.size := ⟨h.cell 0, h.cell 1, h.cell 2, h.lt⟩
theorem i32_R {a : Int} (h : (Lit.int .i32 a).wf = true) : R32 a := by
 have : -2147483648 ≤ a ∧ a ≤ 2147483647 := by simpa [Lit.wf, IntKind.min, IntKind.max, IntKind.signed, IntKind.bits] using h
 exact this
def Lined (cs : List Cel) (w : World) (e : Ending) (w' : World) : Prop := ∃ g, e = .returned (.slice (some ⟨g, 0, none⟩) cs.length cs.length) ∧ w.heap.size ≤ g ∧ Whole w' g 65 (flatC .i32 cs) ∧ Below w.heap.size w w'
theorem lay_zero (n : Nat) (cs : List Cel) (h : cs.length = n) : layC (List.replicate n zeroC) 0 (cs.take n) = cs := by
 subst h; unfold layC; simp
theorem copied_any (A : Option Addr) (n c : Nat) (cs : List Cel) (w : World) (h : Cels .i32 w A cs) (hn : cs.length = n) (hl : n ≤ 1000000) : Calls Tryz.prog 109 #[.slice A n c] w (Lined cs w) := by
 have HC := hide h; have HN := hide hn; clear h hn
 go_enter Tryz.func109, Tryz.ntmps109
 go_wp2_with (at_make; refine stopw ?_)
 unfold Hid
 refine wpList_makeL elemL rfl _ _ rfl n rfl rfl hl (by omega) ?_
 intro w1 hw1 hb1; have HW1 := hide hw1; have HB1 := hide hb1; clear hw1 hb1
 obtain ⟨w2, hrun, hw2, ho2⟩ := run_copyL elemL w1 3 w.heap.size 0 65 (List.replicate n zeroC) cs A n n n c HW1.out (HC.out.below HB1.out) HN.out (by simp)
 rw [Nat.zero_mul] at hrun
 rw [lay_zero n cs HN.out] at hw2
 have HW2 := hide hw2
 have HB2 := hide (ho2.below HB1.out HB1.out.size (Nat.le_refl _))
 clear hw2 ho2; go_wp2; go_ret
 exact ⟨_, by rw [HN.out]; rfl, Nat.le_refl _, HW2.out, HB2.out⟩
theorem set7 {α : Type} (L : List α) (o : Nat) (h : o + 7 ≤ L.length) (v0 v1 v2 v3 v4 v5 v6 : α) : ((((((L.set o v0).set (o + 1) v1).set (o + 2) v2).set (o + 3) v3).set (o + 4) v4).set (o + 5) v5).set (o + 6) v6 = L.take o ++ ([v0, v1, v2, v3, v4, v5, v6] ++ L.drop (o + 7)) := by
 apply List.ext_getElem?
 intro i
 by_cases h1 : i < o
 ·rw [List.getElem?_append_left (by simp; omega), List.getElem?_take, if_pos h1]
  simp only [List.getElem?_set, List.length_set]
  simp [show ¬ o = i by omega, show ¬ o + 1 = i by omega, show ¬ o + 2 = i by omega, show ¬ o + 3 = i by omega, show ¬ o + 4 = i by omega, show ¬ o + 5 = i by omega, show ¬ o + 6 = i by omega]
 ·obtain ⟨d, rfl⟩ : ∃ d, i = o + d := ⟨i - o, by omega⟩
  have hl : (L.take o).length = o := by simp; omega
  rw [List.getElem?_append_right (by omega), hl, show o + d - o = d by omega]
  simp only [List.getElem?_set, List.length_set]
  match d with
  | 0 => simp; omega
  | 1 => simp; omega
  | 2 => simp; omega
  | 3 => simp; omega
  | 4 => simp; omega
  | 5 => simp; omega
  | 6 => simp; omega
  | d + 7 =>
   rw [List.getElem?_append_right (by simp), List.getElem?_drop]
   simp
   congr 1
   omega
theorem put_cell {k : IntKind} {w : World} {g : Nat} {t : TypeId} {ds : List Cel} (h : Whole w g t (flatC k ds)) (o j : Nat) (ho : o = j * 7) (hj : j < ds.length) (c : Cel) :
  Whole (((((((w.setCell ⟨g, o, none⟩ (.int k c.r)).setCell ⟨g, o + 1, none⟩ (.int k c.m)).setCell ⟨g, o + 2, none⟩ (.int k c.n)).setCell ⟨g, o + 3, none⟩ (.int .u8 c.w)).setCell ⟨g, o + 4, none⟩ (.int .u8 c.p.f)).setCell ⟨g, o + 5, none⟩ (.int .u8 c.p.g)).setCell ⟨g, o + 6, none⟩ (.int .u8 c.p.b)) g t (flatC k (ds.set j c)) := by
 have e := ((((((h.put o (.int k c.r)).put (o + 1) (.int k c.m)).put (o + 2) (.int k c.n)).put (o + 3) (.int .u8 c.w)).put (o + 4) (.int .u8 c.p.f)).put (o + 5) (.int .u8 c.p.g)).put (o + 6) (.int .u8 c.p.b)
 rw [set7 _ o (by rw [flatC_len]; omega)] at e
 rw [set_lay ds j c hj, flat_lay]
 subst ho
 exact e
theorem only_cell {w : World} {g : Nat} (o : Nat) (x0 x1 x2 x3 x4 x5 x6 : Value) : Only g w (((((((w.setCell ⟨g, o, none⟩ x0).setCell ⟨g, o + 1, none⟩ x1).setCell ⟨g, o + 2, none⟩ x2).setCell ⟨g, o + 3, none⟩ x3).setCell ⟨g, o + 4, none⟩ x4).setCell ⟨g, o + 5, none⟩ x5).setCell ⟨g, o + 6, none⟩ x6) :=
 ((((((Only.put _ _).trans (Only.put _ _)).trans (Only.put _ _)).trans (Only.put _ _)).trans (Only.put _ _)).trans (Only.put _ _)).trans (Only.put _ _)
theorem Whole.seven {k : IntKind} {w : World} {g : Nat} {t : TypeId} {ds : List Cel} (h : Whole w g t (flatC k ds)) (o j : Nat) (ho : o = j * 7) (hj : j < ds.length) :
  w.cell? ⟨g, o, none⟩ = some (.int k (cAt ds j).r) ∧ w.cell? ⟨g, o + 1, none⟩ = some (.int k (cAt ds j).m) ∧ w.cell? ⟨g, o + 2, none⟩ = some (.int k (cAt ds j).n) ∧ w.cell? ⟨g, o + 3, none⟩ = some (.int .u8 ((cAt ds j).w : Int)) ∧ w.cell? ⟨g, o + 4, none⟩ = some (.int .u8 ((cAt ds j).p.f : Int)) ∧ w.cell? ⟨g, o + 5, none⟩ = some (.int .u8 ((cAt ds j).p.g : Int)) ∧ w.cell? ⟨g, o + 6, none⟩ = some (.int .u8 ((cAt ds j).p.b : Int)) ∧ ∀ i, w.frozen? ⟨g, i, none⟩ = false := by
 subst ho
 have key : ∀ d v, d < 7 → (cellL k (cAt ds j))[d]? = some v → w.cell? ⟨g, j * 7 + d, none⟩ = some v := by
  intro d v hd hv
  rw [h.cell, flatC_get k ds j d hd, get_cAt ds j hj]
  exact hv
 exact ⟨key 0 _ (by omega) rfl, key 1 _ (by omega) rfl, key 2 _ (by omega) rfl, key 3 _ (by omega) rfl, key 4 _ (by omega) rfl, key 5 _ (by omega) rfl, key 6 _ (by omega) rfl, h.frozen⟩
def fillC (ds : List Cel) (p k : Nat) (c : Cel) : List Cel := tab ds.length (fun i => if p ≤ i ∧ i < p + k then c else cAt ds i)
theorem fill_len (ds : List Cel) (p k : Nat) (c : Cel) : (fillC ds p k c).length = ds.length := tab_len _ _
theorem fill_0 (ds : List Cel) (p : Nat) (c : Cel) : fillC ds p 0 c = ds := by
 unfold fillC
 conv => rhs; rw [← tab_self ds]
 exact tab_eq fun i _ => by rw [if_neg (by omega)]
theorem fill_next (ds : List Cel) (p k : Nat) (c : Cel) : fillC ds p (k + 1) c = (fillC ds p k c).set (p + k) c := by
 unfold fillC
 rw [tab_set]
 refine tab_eq fun i _ => ?_
 by_cases h : i = p + k
 ·rw [if_pos (by omega), if_pos h]
 ·rw [if_neg h]
  by_cases h2 : p ≤ i ∧ i < p + k
  ·rw [if_pos (by omega), if_pos h2]
  ·rw [if_neg (by omega), if_neg h2]
theorem fill_any (g p n cap : Nat) (r m x : Int) (d f y b : Nat) (ds : List Cel) (w : World) (h : Whole w g 65 (flatC .i32 ds)) (hp : p + n ≤ ds.length) (hl : ds.length ≤ 1000000) :
  Calls Tryz.prog 105 #[.slice (some ⟨g, p * 7, none⟩) n cap, .agg #[.int .i32 r, .int .i32 m, .int .i32 x, .int .u8 d, .int .u8 f, .int .u8 y, .int .u8 b]] w fun e w' => e = .returned (.tuple #[]) ∧ Whole w' g 65 (flatC .i32 (fillC ds p n ⟨r, m, x, d, ⟨f, y, b⟩⟩)) ∧ Only g w w' := by
 obtain ⟨W0, hW0⟩ := exq (w.alloc (.cells #[.int .i32 r, .int .i32 m, .int .i32 x, .int .u8 d, .int .u8 f, .int .u8 y, .int .u8 b] 65))
 have HA : Hid (Whole W0 w.heap.size 65 [.int .i32 r, .int .i32 m, .int .i32 x, .int .u8 d, .int .u8 f, .int .u8 y, .int .u8 b]) := by unfold Hid; rw [← hW0]; exact Whole.new _ _ _
 have HG : Hid (Whole W0 g 65 (flatC .i32 ds)) := by unfold Hid; rw [← hW0]; exact h.alloc _
 have HO : Hid (Only g w W0) := by unfold Hid; rw [← hW0]; exact Only.of_below ((Below.refl _ _).alloc (Nat.le_refl _) _)
 have HL : Hid (g < w.heap.size) := h.lt
 have HW0 := hide hW0; clear hW0 h
 obtain ⟨P, hP⟩ := exq (p * 7)
 rw [hP]
 have HP := hide hP; clear hP
 go_enter Tryz.func105, Tryz.ntmps105
 go_wp2; rw [HW0.out]
 go_loopw [4, 7] (fun _ i wr => ∃ k : Nat, k ≤ n ∧ i = .int .i64 k ∧ Whole wr g 65 (flatC .i32 (fillC ds p k ⟨r, m, x, d, ⟨f, y, b⟩⟩)) ∧ Only g W0 wr) (fun _ i _ => n - (intOf i).toNat)
 case atStart => exact ⟨0, Nat.zero_le _, rfl, by rw [fill_0]; exact HG.out, Only.refl⟩
 case round =>
  obtain ⟨k, hk, rfl, hw, ho⟩ := hrel
  by_cases hlt : k < n
  ·obtain ⟨a0, a1, a2, a3, a4, a5, a6, -⟩ := cells7 (HA.out.far ho (by have := HL.out; omega))
   obtain ⟨b0, b1, b2, b3, b4, b5, b6, b7⟩ := hw.seven (P + k * 7) (p + k) (by rw [← HP.out]; omega) (by rw [fill_len]; omega)
   have HV := hide hw; have HOO := hide ho; clear hw ho; go_wp2
   go_roundw
   case rel => exact ⟨k + 1, by omega, by go_num, by rw [fill_next]; exact put_cell HV.out _ (p + k) (by rw [← HP.out]; omega) (by rw [fill_len]; omega) ⟨r, m, x, d, ⟨f, y, b⟩⟩, HOO.out.trans (only_cell _ _ _ _ _ _ _ _)⟩
   case measure => simp [intOf]; omega
  ·have HV := hide hw
   have HOO := hide ho; clear hw ho
   obtain rfl : k = n := by omega
   go_wp2
   exact bodyPost_end (v := .tuple #[]) (by simp [results, Tryz.results105]) rfl ⟨rfl, HV.out, HO.out.trans HOO.out⟩
theorem Whole.sevenC {k : IntKind} {w : World} {g : Nat} {t : TypeId} {ds : List Cel} (h : Whole w g t (flatC k ds)) (o j : Nat) (ho : o = j * 7) (hj : j < ds.length) {r m x : Int} {d f y b : Nat} (hc : cAt ds j = ⟨r, m, x, d, ⟨f, y, b⟩⟩) :
  w.cell? ⟨g, o, none⟩ = some (.int k r) ∧ w.cell? ⟨g, o + 1, none⟩ = some (.int k m) ∧ w.cell? ⟨g, o + 2, none⟩ = some (.int k x) ∧ w.cell? ⟨g, o + 3, none⟩ = some (.int .u8 d) ∧ w.cell? ⟨g, o + 4, none⟩ = some (.int .u8 f) ∧ w.cell? ⟨g, o + 5, none⟩ = some (.int .u8 y) ∧ w.cell? ⟨g, o + 6, none⟩ = some (.int .u8 b) ∧ ∀ i, w.frozen? ⟨g, i, none⟩ = false := by
 have := h.seven o j ho hj
 rw [hc] at this
 exact this
theorem Cels.sevenC {k : IntKind} {w : World} {g off : Nat} {ds : List Cel} (h : Cels k w (some ⟨g, off, none⟩) ds) (j : Nat) (hj : j < ds.length) {r m x : Int} {d f y b : Nat} (hc : cAt ds j = ⟨r, m, x, d, ⟨f, y, b⟩⟩) :
  w.cell? ⟨g, off + j * 7, none⟩ = some (.int k r) ∧ w.cell? ⟨g, off + j * 7 + 1, none⟩ = some (.int k m) ∧ w.cell? ⟨g, off + j * 7 + 2, none⟩ = some (.int k x) ∧ w.cell? ⟨g, off + j * 7 + 3, none⟩ = some (.int .u8 d) ∧ w.cell? ⟨g, off + j * 7 + 4, none⟩ = some (.int .u8 f) ∧ w.cell? ⟨g, off + j * 7 + 5, none⟩ = some (.int .u8 y) ∧ w.cell? ⟨g, off + j * 7 + 6, none⟩ = some (.int .u8 b) ∧ g < w.heap.size := by
 obtain ⟨b', off', e, hb, key⟩ := h.at hj
 cases e
 rw [hc] at key
 exact ⟨key 0 _ rfl, key 1 _ rfl, key 2 _ rfl, key 3 _ rfl, key 4 _ rfl, key 5 _ rfl, key 6 _ rfl, hb⟩
theorem mendown_any (g n : Nat) (ds : List Cel) (w : World) (h : Whole w g 65 (flatC .i32 ds)) (hn : ds.length = n) (hl : n ≤ 1000000) :
  Calls Tryz.prog 104 #[.slice (some ⟨g, 0, none⟩) n n] w fun e w' => e = .returned (.slice (some ⟨g, 0, none⟩) n n) ∧ Whole w' g 65 (flatC .i32 (mendC ds)) ∧ Only g w w' := by
 have HG := hide h; have HN := hide hn; clear h hn
 go_enter Tryz.func104, Tryz.ntmps104
 go_wp2
 go_loopw [3, 4, 7] (fun _ _ i wr => ∃ k : Nat, k ≤ n ∧ i = .int .i64 k ∧ Whole wr g 65 (flatC .i32 (mixC ds k)) ∧ Only g w wr) (fun _ _ i _ => n - (intOf i).toNat)
 case atStart => exact ⟨0, Nat.zero_le _, rfl, by rw [mix_0]; exact HG.out, Only.refl⟩
 case round =>
  obtain ⟨k, hk, rfl, hw, ho⟩ := hrel
  have HV := hide hw; have HOO := hide ho; clear hw ho
  by_cases hlt : k < n
  ·obtain ⟨⟨r, m, x, d, ⟨f, y, b⟩⟩, hc⟩ : ∃ c, cAt (mixC ds k) k = c := ⟨_, rfl⟩
   have HM : Hid (cAt ds k = ⟨r, m, x, d, ⟨f, y, b⟩⟩) := by unfold Hid; rw [← hc, mix_self ds k (by rw [HN.out]; exact hlt)]
   obtain ⟨a0, a1, a2, a3, a4, a5, a6, -⟩ := HV.out.sevenC (k * 7) k rfl (by rw [mix_len, HN.out]; exact hlt) hc
   obtain ⟨W1, hW1⟩ := exq (wr.alloc (.cells #[.int .i32 r, .int .i32 m, .int .i32 x, .int .u8 d, .int .u8 f, .int .u8 y, .int .u8 b] 65))
   have HA : Hid (Whole W1 wr.heap.size 65 [.int .i32 r, .int .i32 m, .int .i32 x, .int .u8 d, .int .u8 f, .int .u8 y, .int .u8 b]) := by unfold Hid; rw [← hW1]; exact Whole.new _ _ _
   have HG1 : Hid (Whole W1 g 65 (flatC .i32 (mixC ds k))) := by unfold Hid; rw [← hW1]; exact HV.out.alloc _
   have HO1 : Hid (Only g w W1) := by unfold Hid; rw [← hW1]; exact HOO.out.trans (Only.of_below ((Below.refl _ _).alloc (Nat.le_refl _) _))
   have HL : Hid (g < wr.heap.size) := HV.out.lt
   have HW1 := hide hW1
   have HAL := hide (mix_alone ds k (by rw [HN.out]; exact hlt))
   clear hW1 hc HV HOO; go_wp2_with fail
   rw [HW1.out]
   refine (alone_any (some ⟨g, 0, none⟩) n n k (mixC ds k) W1 HG1.out.cels (by rw [mix_len, HN.out]) hlt hl).mono ?_
   rintro e w1 ⟨rfl, rfl⟩
   rw [HAL.out]
   clear a0 a1 a2 a3 a4 a5 a6
   cases hal : aloneC ds k
   case false =>
    have HS := hide (mix_stay ds k (by rw [HN.out]; exact hlt) hal)
    clear hal; go_wp2
    go_roundw
    case rel => exact ⟨k + 1, by omega, by go_num, by rw [HS.out]; exact HG1.out, HO1.out⟩
    case measure => simp [intOf]; omega
   case true =>
    have HS : Hid (mixC ds (k + 1) = (mixC ds k).set k ⟨32, 0, 0, 1, ⟨f, y, b⟩⟩) := by unfold Hid; rw [mix_next, mendAt_yes ds k hal, HM.out]; rfl
    clear hal
    obtain ⟨a0, a1, a2, a3, a4, a5, a6, -⟩ := cells7 HA.out
    go_wp2_with fail
    refine (blank_v f y b W1).mono ?_
    rintro e w2 ⟨rfl, hb⟩
    clear a0 a1 a2 a3 a4 a5 a6
    have HG2 := hide (HG1.out.later hb)
    have HO2 := hide (HO1.out.trans (Only.of_below hb))
    clear hb
    obtain ⟨b0, b1, b2, b3, b4, b5, b6, b7⟩ := HG2.out.seven (k * 7) k rfl (by rw [mix_len, HN.out]; exact hlt)
    go_wp2
    go_roundw
    case rel => exact ⟨k + 1, by omega, by go_num, by rw [HS.out]; exact put_cell HG2.out _ k rfl (by rw [mix_len, HN.out]; exact hlt) ⟨32, 0, 0, 1, ⟨f, y, b⟩⟩, HO2.out.trans (only_cell _ _ _ _ _ _ _ _)⟩
    case measure => simp [intOf]; omega
  ·go_wp2
   go_ret
   exact ⟨rfl, by rw [← mix_all ds k (by rw [HN.out]; omega)]; exact HV.out, HOO.out⟩
def CelOk (r m n : Int) (d f g b : Nat) : Prop := R32 r ∧ R32 m ∧ R32 n ∧ d < 256 ∧ f < 256 ∧ g < 256 ∧ b < 256
def PenOk (f g b : Nat) : Prop := f < 256 ∧ g < 256 ∧ b < 256
def CelB (c : Cel) : Prop := R32 c.r ∧ R32 c.m ∧ R32 c.n ∧ c.w < 256
def LB (cs : List Cel) : Prop := ∀ i, i < cs.length → CelB (cAt cs i)
def MadeC (t : TypeId) (k : IntKind) (w : World) (cs : List Cel) (e : Ending) (w' : World) : Prop := ∃ v, e = .returned v ∧ OwnC t k w.heap.size w w' v cs
theorem lcut_any (A : Option Addr) (n c : Nat) (cs : List Cel) (w : World) (h : Cels .i32 w A cs) (hn : n ≤ cs.length) (hc : A = none → c = 0) (hnc : n ≤ c) : Calls Tryz.prog 52 #[.slice A n c] w (MadeC 65 .i32 w (cs.take (min n 30))) := by
 obtain ⟨m, hm⟩ := exq (min n 30)
 have em : min (n : Int) 30 = (m : Int) := by omega
 have hm1 : m ≤ c := by omega
 have hm2 : m ≤ 30 := by omega
 have HC := hide ((h.take m).alloc (.cells #[] 65))
 have HA := hide hc
 have HL : Hid ((cs.take m).length = m) := by unfold Hid; rw [List.length_take]; omega
 have HM := hide hm; clear h hn hc hm hnc
 go_enter Tryz.func52, Tryz.ntmps52
 go_wp2_with (at_builtin; refine stopw ?_)
 unfold Hid
 refine wpList_catC elemL rfl _ _ rfl rfl rfl (OwnC.empty w 65 .i32) HC.out HL.out HA.out (by simp; omega) (by omega) ?_
 intro v' w1 hown
 simp only [List.nil_append] at hown
 have HV := hide hown; clear hown; go_wp2; go_ret
 exact ⟨_, rfl, by rw [HM.out]; exact HV.out⟩
theorem OwnC.snoc {e : TypeId} {k : IntKind} {B : Nat} {w wr : World} {v : Value} {n : Nat} {F : Nat → Cel} {c : Cel} (h : OwnC e k B w wr v (tab n F ++ [c])) (hF : F n = c) : OwnC e k B w wr v (tab (n + 1) F) := by rw [tab_snoc, hF]; exact h
theorem take_cAt (cs : List Cel) (k : Nat) (h : k < cs.length) : cs.take (k + 1) = cs.take k ++ [cAt cs k] := by
 rw [List.take_succ_eq_append_getElem h]
 congr 2
 exact Option.some.inj ((List.getElem?_eq_getElem h).symm.trans (get_cAt cs k h))
theorem lineof_any (A : Option Addr) (n c : Nat) (cs : List Cel) (w : World) (h : Cels .i32 w A cs) (hn : cs.length = n) (hl : n ≤ 1000000) (hb : LB cs) : Calls Tryz.prog 42 #[.slice A n c] w (MadeC 95 .i64 w cs) := by
 have HC := hide h; have HN := hide hn; have HLB := hide hb; clear h hn hb
 go_enter Tryz.func42, Tryz.ntmps42
 go_wp2
 go_loopw [3, 4] (fun v i wr => ∃ k : Nat, k ≤ n ∧ i = .int .i64 k ∧ OwnC 95 .i64 w.heap.size w wr v (cs.take k)) (fun _ i _ => n - (intOf i).toNat)
 case atStart => exact ⟨0, Nat.zero_le _, rfl, OwnC.start (Nat.le_refl _)⟩
 case round =>
  obtain ⟨k, hk, rfl, hown⟩ := hrel
  have HV := hide hown; clear hown
  by_cases hlt : k < n
  ·obtain ⟨b1, o1, rfl, l1, -⟩ := HC.out.at (i := k) (by rw [HN.out]; exact hlt)
   have hcb := HLB.out k (by rw [HN.out]; exact hlt)
   have HT := hide (take_cAt cs k (by rw [HN.out]; exact hlt))
   obtain ⟨⟨r, x, y, z, ⟨f, g, b⟩⟩, hc⟩ : ∃ q, cAt cs k = q := ⟨_, rfl⟩
   rw [hc] at hcb HT
   obtain ⟨hr, hx, hy, -⟩ := hcb
   obtain ⟨u0, u1, u2, u3, u4, u5, u6, -⟩ := (HC.out.below HV.out.bel).sevenC k (by rw [HN.out]; exact hlt) hc
   clear hc; go_wp2_with fail
   refine (lof_v r x y z f g b hr hx hy wr).mono ?_
   rintro e w1 ⟨rfl, hb1⟩
   have HV1 := hide (HV.out.later hb1)
   clear hb1 u0 u1 u2 u3 u4 u5 u6
   go_wp2_with (at_builtin; refine stopw ?_)
   unfold Hid
   refine wpList_pushC elemLC ⟨r, x, y, z, ⟨f, g, b⟩⟩ rfl _ _ rfl rfl rfl HV1.out (by rw [List.length_take]; omega) (by omega) ?_
   intro v' wn hn1
   rw [← HT.out] at hn1
   have HV' := hide hn1
   clear hn1 hr hx hy; go_wp2
   go_roundw
   case rel => exact ⟨k + 1, by omega, by go_num, HV'.out⟩
   case measure => simp [intOf]; omega
  ·go_wp2
   go_ret
   exact ⟨_, rfl, by have q := HV.out; rwa [List.take_of_length_le (by rw [HN.out]; omega)] at q⟩
theorem length_any (x : Int) (w : World) : Calls Tryz.prog 107 #[.int .i64 x] w fun e w' => e = .returned (.int .i64 (lenN x : Int)) ∧ w = w' := by
 by_cases h0 : x < 0
 ·have H : Hid ((lenN x : Int) = 0) := by unfold Hid lenN; omega
  go_enter Tryz.func107, Tryz.ntmps107
  go_wp2; go_ret
  exact ⟨ret_int H.out.symm, rfl⟩
 ·by_cases h1 : 512 < x
  ·have H : Hid ((lenN x : Int) = 512) := by unfold Hid lenN; omega
   go_enter Tryz.func107, Tryz.ntmps107
   go_wp2; go_ret
   exact ⟨ret_int H.out.symm, rfl⟩
  ·have H : Hid ((lenN x : Int) = x) := by unfold Hid lenN; omega
   go_enter Tryz.func107, Tryz.ntmps107
   go_wp2; go_ret
   exact ⟨ret_int H.out.symm, rfl⟩
theorem rnew_any (x : Int) (w : World) : Calls Tryz.prog 77 #[.int .i64 x] w (MadeC 95 .i64 w (newC x)) := by
 obtain ⟨N, hN⟩ := exq (lenN x)
 have hl : N ≤ 512 := by rw [← hN]; exact lenN_le x
 have HN := hide hN; clear hN
 go_enter Tryz.func77, Tryz.ntmps77
 go_wp2
 go_loopw [3, 4] (fun v i wr => ∃ k : Nat, k ≤ N ∧ i = .int .i64 k ∧ OwnC 95 .i64 w.heap.size w wr v (tab k (fun _ => blankC zeroP))) (fun _ i _ => N - (intOf i).toNat)
 case atStart => exact ⟨0, Nat.zero_le _, rfl, OwnC.start (Nat.le_refl _)⟩
 case round =>
  obtain ⟨k, hk, rfl, hown⟩ := hrel
  have HV := hide hown; clear hown; go_wp2_with fail
  refine (length_any x wr).mono ?_
  rintro e w1 ⟨rfl, rfl⟩
  rw [HN.out]
  by_cases hlt : k < N
  ·go_wp2_with fail
   refine (rblank_v 0 0 0 wr).mono ?_
   rintro e w1 ⟨rfl, hb1⟩
   have HV1 := hide (HV.out.later hb1)
   clear hb1
   go_wp2_with (at_builtin; refine stopw ?_)
   unfold Hid
   refine wpList_pushC elemLC (blankC zeroP) rfl _ _ rfl rfl rfl HV1.out (by rw [tab_len]; omega) (by omega) ?_
   intro v' wn hn1
   have HV' : Hid (OwnC 95 .i64 w.heap.size w wn v' (tab (k + 1) (fun _ => blankC zeroP))) := by unfold Hid; rw [tab_snoc]; exact hn1
   clear hn1; go_wp2
   go_roundw
   case rel => exact ⟨k + 1, by omega, by go_num, HV'.out⟩
   case measure => simp [intOf]; omega
  ·obtain rfl : k = N := by omega
   go_wp2; go_ret
   exact ⟨_, rfl, by unfold newC; rw [HN.out]; exact HV.out⟩
theorem wpList_pushQ {P : Program} {S e : TypeId} {k : IntKind} {bytes : Nat} (E : ElemC P S e k bytes) {ops : Array Oper} {rest : List Oper} {o : Oper} {a : Act} {Q : Exit → Act → World → Prop} {B : Nat} {w wr : World} {v : Value} {cs : List Cel} (c : Cel) (q : Nat)
  (hgd : Region.wanted o (yielded ops a.tmps) = true) (s y : Operand) (ho : o.op = .call { callee := .builtin .append, args := #[s, y], argTypes := #[S, S] })
  (hs : a.eval s = v) (hy : a.eval y = .slice (some ⟨q, 0, none⟩) 1 1) (hown : OwnC e k B w wr v cs) (hq : q = wr.heap.size) (hlen : cs.length ≤ 1000000) (hby : bytes ≤ 1000)
  (h : ∀ v' w1, OwnC e k B w w1 v' (cs ++ [c]) → wpList P ops Q rest (a.put o.dst v') w1) : wpList P ops Q (o :: rest) a (wr.alloc (.cells #[.int k c.r, .int k c.m, .int k c.n, .int .u8 c.w, .int .u8 c.p.f, .int .u8 c.p.g, .int .u8 c.p.b] e)) := by
 subst hq
 exact wpList_pushC E c hgd s y ho hs hy hown hlen hby h
theorem rmend_any (A : Option Addr) (n c : Nat) (cs : List Cel) (w : World) (h : Cels .i64 w A cs) (hn : cs.length = n) (hl : n ≤ 1000000) : Calls Tryz.prog 111 #[.slice A n c] w (MadeC 95 .i64 w (mendC cs)) := by
 have HC := hide h; have HN := hide hn; clear h hn
 go_enter Tryz.func111, Tryz.ntmps111
 go_wp2
 go_loopw [3, 4, 5] (fun v i _ wr => ∃ k : Nat, k ≤ n ∧ i = .int .i64 k ∧ OwnC 95 .i64 w.heap.size w wr v (tab k (mendAt cs))) (fun _ i _ _ => n - (intOf i).toNat)
 case atStart => exact ⟨0, Nat.zero_le _, rfl, OwnC.start (Nat.le_refl _)⟩
 case round =>
  obtain ⟨k, hk, rfl, hown⟩ := hrel
  have HV := hide hown; clear hown
  by_cases hlt : k < n
  ·obtain ⟨b1, o1, rfl, l1, -⟩ := HC.out.at (i := k) (by rw [HN.out]; exact hlt)
   obtain ⟨⟨r, x, y, z, ⟨f, g, b⟩⟩, hc⟩ : ∃ q, cAt cs k = q := ⟨_, rfl⟩
   obtain ⟨a0, a1, a2, a3, a4, a5, a6, -⟩ := (HC.out.below HV.out.bel).sevenC k (by rw [HN.out]; exact hlt) hc
   have HK := hide hc
   obtain ⟨W1, hW1⟩ := exq (wr.alloc (.cells #[.int .i64 r, .int .i64 x, .int .i64 y, .int .u8 z, .int .u8 f, .int .u8 g, .int .u8 b] 95))
   have HA : Hid (Whole W1 wr.heap.size 95 [.int .i64 r, .int .i64 x, .int .i64 y, .int .u8 z, .int .u8 f, .int .u8 g, .int .u8 b]) := by unfold Hid; rw [← hW1]; exact Whole.new _ _ _
   have HV1 : Hid (OwnC 95 .i64 w.heap.size w W1 u3 (tab k (mendAt cs))) := by unfold Hid; rw [← hW1]; exact HV.out.alloc _
   have HBB : Hid (Below wr.heap.size wr W1) := by unfold Hid; rw [← hW1]; exact (Below.refl _ _).alloc (Nat.le_refl _) _
   have HW1 := hide hW1; clear hc hW1; go_wp2_with fail
   rw [HW1.out]
   refine (ralone_any (some ⟨b1, o1, none⟩) n c k cs W1 (HC.out.below HV1.out.bel) HN.out hlt hl).mono ?_
   rintro e w1 ⟨rfl, rfl⟩
   clear a0 a1 a2 a3 a4 a5 a6
   obtain ⟨a0, a1, a2, a3, a4, a5, a6, -⟩ := cells7 HA.out
   cases hal : aloneC cs k
   case false =>
    have HM := hide (mendAt_no cs k hal)
    rw [HK.out] at HM
    clear hal
    go_wp2_with (at_builtin; refine stopw ?_)
    unfold Hid
    refine wpList_pushC elemLC ⟨r, x, y, z, ⟨f, g, b⟩⟩ rfl _ _ rfl rfl rfl (HV1.out) (by rw [tab_len]; omega) (by omega) ?_
    intro v' wn hn1
    have HV' := hide (hn1.snoc HM.out)
    clear hn1 a0 a1 a2 a3 a4 a5 a6; go_wp2
    go_roundw
    case rel => exact ⟨k + 1, by omega, by go_num, HV'.out⟩
    case measure => simp [intOf]; omega
   case true =>
    have HM := hide (mendAt_yes cs k hal)
    rw [HK.out] at HM
    clear hal; go_wp2_with fail
    refine (rblank_v f g b W1).mono ?_
    rintro e w2 ⟨rfl, hb2⟩
    have HB2 := hide (HBB.out.trans (hb2.mono HBB.out.size))
    have HA2 := hide (HA.out.later hb2)
    clear a0 a1 a2 a3 a4 a5 a6 hb2
    obtain ⟨a0, a1, a2, a3, a4, a5, a6, a7⟩ := cells7 HA2.out
    go_wp2_with (at_builtin; refine stopw ?_)
    unfold Hid
    refine wpList_pushQ elemLC ⟨32, 0, 0, 1, ⟨f, g, b⟩⟩ (w2.heap.size) rfl _ _ rfl rfl rfl (HV.out.later (below_put7 HB2.out (Nat.le_refl _) _ _ _ _ _ _ _)) (by simp) (by rw [tab_len]; omega) (by omega) ?_
    intro v' wn hn1
    have HV' := hide (hn1.snoc HM.out)
    clear hn1 a0 a1 a2 a3 a4 a5 a6 a7; go_wp2
    go_roundw
    case rel => exact ⟨k + 1, by omega, by go_num, HV'.out⟩
    case measure => simp [intOf]; omega
  ·obtain rfl : k = n := by omega
   go_wp2; go_ret
   exact ⟨_, rfl, by unfold mendC; rw [HN.out]; exact HV.out⟩
theorem fill_new (n : Int) : fillC (List.replicate (lenN n) zeroC) 0 (lenN n) (blankC zeroP) = newC n := by
 unfold fillC newC
 rw [List.length_replicate]
 exact tab_eq fun i hi => by rw [if_pos (by omega)]
theorem new_len (n : Int) : (newC n).length = lenN n := tab_len _ _
theorem new_any (n : Int) (w : World) : Calls Tryz.prog 75 #[.int .i64 n] w (Lined (newC n) w) := by
 obtain ⟨N, hN⟩ := exq (lenN n)
 have hm : min (max n 0) 512 = (N : Int) := by rw [← hN]; unfold lenN; omega
 have hl : N ≤ 512 := by rw [← hN]; exact lenN_le n
 have HN := hide hN; clear hN
 go_enter Tryz.func75, Tryz.ntmps75
 go_wp2_with (at_make; refine stopw ?_)
 unfold Hid
 refine wpList_makeL elemL rfl _ _ rfl N rfl rfl (by omega) (by omega) ?_
 intro w1 hw1 hb1; have HW1 := hide hw1; have HB1 := hide hb1; clear hw1 hb1; go_wp2_with fail
 refine (blank_v 0 0 0 w1).mono ?_
 rintro e w2 ⟨rfl, hb⟩
 have HW2 := hide (HW1.out.later hb)
 have HB2 := hide (HB1.out.trans (hb.mono HB1.out.size))
 clear hb; go_wp2_with fail
 refine (fill_any w.heap.size 0 N N 32 0 0 1 0 0 0 (List.replicate N zeroC) w2 HW2.out (by simp) (by simp; omega)).mono ?_
 rintro e w3 ⟨rfl, hw3, ho3⟩
 have HW3 : Hid (Whole w3 w.heap.size 65 (flatC .i32 (newC n))) := by unfold Hid; rw [← fill_new, HN.out]; exact hw3
 have HB3 := hide (ho3.below HB2.out HB2.out.size (Nat.le_refl _))
 clear hw3 ho3; go_wp2; go_ret
 exact ⟨_, by rw [new_len, HN.out]; rfl, Nat.le_refl _, HW3.out, HB3.out⟩
theorem lay_new (n : Int) (cs : List Cel) : layC (newC n) 0 (cs.take (lenN n)) = fitTab cs n := by
 rw [lay_tab _ _ _ (by rw [new_len, List.length_take]; omega), new_len]
 unfold fitTab
 refine tab_eq fun i hi => ?_
 rw [List.length_take]
 by_cases h : i < cs.length
 ·rw [if_pos (by omega), if_pos h]
  unfold cAt
  simp [hi]
 ·rw [if_neg (by omega), if_neg h]
  exact tab_cAt _ _ _ hi
theorem fitTab_len (cs : List Cel) (n : Int) : (fitTab cs n).length = lenN n := tab_len _ _
theorem fit_len (cs : List Cel) (n : Int) : (fitC cs n).length = lenN n := by unfold fitC; rw [mend_len, fitTab_len]
theorem lfit_any (A : Option Addr) (n c : Nat) (x : Int) (cs : List Cel) (w : World) (h : Cels .i32 w A cs) (hn : cs.length = n) : Calls Tryz.prog 72 #[.slice A n c, .int .i64 x] w (Lined (fitC cs x) w) := by
 have HC := hide h; have HN := hide hn; clear h hn
 obtain ⟨N, hN⟩ := exq (lenN x)
 have hl : N ≤ 512 := by rw [← hN]; exact lenN_le x
 have HX := hide hN; clear hN
 go_enter Tryz.func72, Tryz.ntmps72
 go_wp2_with fail
 refine (new_any x w).mono ?_
 rintro e w1 ⟨g, rfl, hg, hw, hb⟩
 have HW1 := hide hw; have HB1 := hide hb; have HG := hide hg; clear hw hb hg
 rw [new_len, HX.out]
 obtain ⟨w2, hrun, hw2, ho2⟩ := run_copyL elemL w1 3 g 0 65 (newC x) cs A N N n c HW1.out (HC.out.below HB1.out) HN.out (by rw [new_len, HX.out]; omega)
 rw [Nat.zero_mul] at hrun
 have HW2 : Hid (Whole w2 g 65 (flatC .i32 (fitTab cs x))) := by unfold Hid; rw [← lay_new, HX.out]; exact hw2
 have HB2 := hide (ho2.below HB1.out HB1.out.size HG.out)
 clear hw2 ho2; go_wp2_with fail
 refine (mendown_any g N (fitTab cs x) w2 HW2.out (by rw [fitTab_len, HX.out]) (by omega)).mono ?_
 rintro e w3 ⟨rfl, hw, ho⟩
 have HW3 := hide hw
 have HB3 := hide (ho.below HB2.out HB2.out.size HG.out)
 clear hw ho; go_wp2; go_ret
 exact ⟨g, by rw [fit_len, HX.out]; rfl, HG.out, HW3.out, HB3.out⟩
theorem cut_any (g n p q : Nat) (w : World) (h : p < q) (hq : q ≤ n) : Calls Tryz.prog 110 #[.slice (some ⟨g, 0, none⟩) n n, .int .i64 p, .int .i64 q] w fun e w' => e = .returned (.slice (some ⟨g, p * 7, none⟩) (q - p) (q - p)) ∧ w = w' := by
 have hne : ¬ n = p := by omega
 go_enter Tryz.func110, Tryz.ntmps110
 go_wp2; go_ret
 exact ⟨rfl, rfl⟩
theorem hold_any (x : Int) (q n : Nat) (A : Option Addr) (c : Nat) (w : World) (h : w.cell? ⟨q, 0, none⟩ = some (.slice A n c)) (m : Nat) (hm : min (max x 0) (n : Int) = (m : Int)) :
  Calls Tryz.prog 119 #[.int .i64 x, .pointer (some ⟨q, 0, none⟩)] w fun e w' => e = .returned (.int .i64 m) ∧ w = w' := by
 go_enter Tryz.func119, Tryz.ntmps119
 go_wp2; go_ret
 exact ⟨rfl, rfl⟩
def clampN (x : Int) (n : Nat) : Nat := (min (max x 0) (n : Int)).toNat
theorem clampN_is (x : Int) (n : Nat) : min (max x 0) (n : Int) = (clampN x n : Int) := by unfold clampN; omega
theorem clampN_le (x : Int) (n : Nat) : clampN x n ≤ n := by unfold clampN; omega
theorem fill_erase (cs : List Cel) (x y : Int) (p : Pn) (n : Nat) (hn : cs.length = n) (h : clampN x n < clampN y n) : fillC cs (clampN x n) (clampN y n - clampN x n) (blankC p) = eraseTab cs x y p := by
 unfold fillC eraseTab
 refine tab_eq fun i hi => ?_
 unfold clampN at *
 by_cases q : x ≤ (i : Int) ∧ (i : Int) < y
 ·rw [if_pos q, if_pos (by omega)]
 ·rw [if_neg q, if_neg (by omega)]
theorem none_erase (cs : List Cel) (x y : Int) (p : Pn) (n : Nat) (hn : cs.length = n) (h : ¬ clampN x n < clampN y n) : eraseTab cs x y p = cs := by
 unfold eraseTab
 conv => rhs; rw [← tab_self cs]
 refine tab_eq fun i hi => ?_
 unfold clampN at *
 rw [if_neg (by omega)]
theorem eraseTab_len (cs : List Cel) (x y : Int) (p : Pn) : (eraseTab cs x y p).length = cs.length := tab_len _ _
theorem erase_len (cs : List Cel) (x y : Int) (p : Pn) : (eraseC cs x y p).length = cs.length := by unfold eraseC; rw [mend_len, eraseTab_len]
theorem erase_any (A : Option Addr) (n c : Nat) (x y : Int) (f g b : Nat) (cs : List Cel) (w : World) (h : Cels .i32 w A cs) (hn : cs.length = n) (hl : n ≤ 1000000) :
  Calls Tryz.prog 99 #[.slice A n c, .int .i64 x, .int .i64 y, .agg #[.int .u8 f, .int .u8 g, .int .u8 b]] w (Lined (eraseC cs x y ⟨f, g, b⟩) w) := by
 have HC := hide h; have HN := hide hn
 obtain ⟨X, hX⟩ := exq (clampN x n)
 obtain ⟨Y, hY⟩ := exq (clampN y n)
 have HX : Hid (min (max x 0) (n : Int) = (X : Int)) := by unfold Hid; rw [clampN_is, hX]
 have HY : Hid (min (max y 0) (n : Int) = (Y : Int)) := by unfold Hid; rw [clampN_is, hY]
 have hYn : Y ≤ n := by rw [← hY]; exact clampN_le y n
 have HF : Hid (X < Y → fillC cs X (Y - X) (blankC ⟨f, g, b⟩) = eraseTab cs x y ⟨f, g, b⟩) := by
  unfold Hid; intro q; rw [← hX, ← hY] at q ⊢; exact fill_erase cs x y _ n hn q
 have HE : Hid (¬ X < Y → eraseTab cs x y ⟨f, g, b⟩ = cs) := by
  unfold Hid; intro q; rw [← hX, ← hY] at q; exact none_erase cs x y _ n hn q
 clear hX hY
 obtain ⟨W0, hW0⟩ := exq (w.alloc (.cells #[.int .u8 f, .int .u8 g, .int .u8 b] 63))
 have HB0 : Hid (Below w.heap.size w W0) := by unfold Hid; rw [← hW0]; exact (Below.refl _ _).alloc (Nat.le_refl _) _
 have HP0 : Hid (Whole W0 w.heap.size 63 [.int .u8 f, .int .u8 g, .int .u8 b]) := by unfold Hid; rw [← hW0]; exact Whole.new _ _ _
 have HC0 : Hid (Cels .i32 W0 A cs) := by unfold Hid; rw [← hW0]; exact HC.out.alloc _
 have HW0 := hide hW0; clear h hn hW0 HC
 go_enter Tryz.func99, Tryz.ntmps99
 go_wp2_with fail
 rw [HW0.out]
 refine (copied_any A n c cs W0 HC0.out HN.out hl).mono ?_
 rintro e w1 ⟨g1, rfl, hg, hw, hb⟩
 rw [HN.out]
 obtain ⟨W1, hW1⟩ := exq (w1.alloc (.cells #[.slice (some ⟨g1, 0, none⟩) n n] 45))
 have HB1 : Hid (Below w.heap.size w W1) := by unfold Hid; rw [← hW1]; have q := HB0.out.trans (hb.mono HB0.out.size); exact q.alloc q.size _
 have HP1 : Hid (Whole W1 w.heap.size 63 [.int .u8 f, .int .u8 g, .int .u8 b]) := by unfold Hid; rw [← hW1]; exact (HP0.out.later hb).alloc _
 have HG1 : Hid (Whole W1 g1 65 (flatC .i32 cs)) := by unfold Hid; rw [← hW1]; exact hw.alloc _
 have HQ1 : Hid (Whole W1 w1.heap.size 45 [.slice (some ⟨g1, 0, none⟩) n n]) := by unfold Hid; rw [← hW1]; exact Whole.new _ _ _
 have HG : Hid (w.heap.size ≤ g1) := by unfold Hid; exact Nat.le_trans HB0.out.size hg
 have HNP : Hid (w.heap.size ≠ g1) := by unfold Hid; have := HP0.out.lt; omega
 have HNQ : Hid (w1.heap.size ≠ g1) := by unfold Hid; have := hw.lt; omega
 have HW1 := hide hW1; clear hg hw hb hW1; go_wp2_with fail
 rw [HW1.out]
 refine (hold_any x w1.heap.size n (some ⟨g1, 0, none⟩) n W1 (HQ1.out.cell 0) X HX.out).mono ?_
 rintro e w2 ⟨rfl, rfl⟩
 go_wp2_with fail
 refine (hold_any y w1.heap.size n (some ⟨g1, 0, none⟩) n W1 (HQ1.out.cell 0) Y HY.out).mono ?_
 rintro e w2 ⟨rfl, rfl⟩
 by_cases hXY : X < Y
 ·have HD := hide (HF.out hXY)
  go_wp2
  refine rgH (fun w' => Only g1 W1 w') [(true, 1), (true, 2), (true, 0), (true, 4), (false, 3), (false, 5), (false, 6)] (Only.of_below bd1) ?_
  refine stH (h := ?_)
  refine stH (h := ?_)
  refine stH (hy := fun w hS => by have f0 := (HQ1.out.far hS HNQ.out).cell 0; go_simp <;> with_reducible rfl) (h := ?_)
  refine stH (hy := fun w hS => by obtain ⟨a0, a1, a2, -⟩ := cells3 (HP1.out.far hS HNP.out); go_simp <;> with_reducible rfl) (h := ?_)
  refine alH fun K hK => ?_
  go_wp2_with fail
  refine (cut_any g1 n X Y _ hXY hYn).mono ?_
  rintro e k1 ⟨rfl, rfl⟩
  have Ok1 : Only g1 W1 W1.drew := Only.of_below bd1
  go_wp2
  refine hK.out _ _ Ok1 ?_
  clear hK K
  refine alH fun K hK => ?_
  go_wp2_with fail
  refine (blank_v f g b _).mono ?_
  rintro e k2 ⟨rfl, hb⟩
  have Ok2 : Only g1 W1 k2 := Ok1.trans (Only.of_below hb)
  have Wk2 := hide ((HG1.out.drewN 1).later (w' := k2) hb)
  clear hb; go_wp2
  refine hK.out _ _ Ok2 ?_
  clear hK K
  refine alH fun K hK => ?_
  go_wp2_with fail
  refine (fill_any g1 X (Y - X) (Y - X) 32 0 0 1 f g b cs k2 Wk2.out (by rw [HN.out]; omega) (by rw [HN.out]; exact hl)).mono ?_
  rintro e k3 ⟨rfl, hw3, ho3⟩
  have Ok3 : Only g1 W1 k3 := Ok2.trans ho3
  have Wk3 : Hid (Whole k3 g1 65 (flatC .i32 (eraseTab cs x y ⟨f, g, b⟩))) := by unfold Hid; rw [← HD.out]; exact hw3
  have HO3 := hide Ok3; clear hw3 ho3; go_wp2
  refine hK.out _ _ Ok3 ?_
  clear hK K
  refine chainH_nil ?_
  clear Ok1 Ok2 Ok3
  have f0 := (HQ1.out.far HO3.out HNQ.out).cell 0
  simp only [List.getElem?_cons_zero] at f0
  go_wp2_with fail
  refine (mendown_any g1 n (eraseTab cs x y ⟨f, g, b⟩) k3 Wk3.out (by rw [eraseTab_len, HN.out]) hl).mono ?_
  rintro e k4 ⟨rfl, hw, ho⟩
  clear f0; go_wp2; go_ret
  exact ⟨g1, by rw [erase_len, HN.out]; rfl, HG.out, hw, (HO3.out.trans ho).below HB1.out HB1.out.size HG.out⟩
 ·have HD := hide (HE.out hXY)
  have f0 := HQ1.out.cell 0
  simp only [List.getElem?_cons_zero] at f0
  go_wp2_with fail
  refine (mendown_any g1 n cs W1 HG1.out HN.out hl).mono ?_
  rintro e k4 ⟨rfl, hw, ho⟩
  clear f0; go_wp2; go_ret
  exact ⟨g1, by rw [erase_len, HN.out]; rfl, HG.out, by unfold eraseC; rw [HD.out]; exact hw, ho.below HB1.out HB1.out.size HG.out⟩
theorem OwnC.from {e : TypeId} {k : IntKind} {B : Nat} {w w1 wr : World} {v : Value} {cs : List Cel} (h : OwnC e k w1.heap.size w1 wr v cs) (hb : Below B w w1) (hB : B ≤ w1.heap.size) : OwnC e k B w wr v cs := by
 refine ⟨⟨h.own.1, ?_⟩, hb.trans (h.bel.mono hB), Nat.le_trans hB h.le⟩
 rcases h.own.2 with h0 | ⟨g, cap, cur, hv, hg, h1⟩
 ·exact .inl h0
 ·exact .inr ⟨g, cap, cur, hv, Nat.le_trans hB hg, h1⟩
def eraseAt (cs : List Cel) (x y : Int) (p : Pn) (i : Nat) : Cel := if x ≤ (i : Int) ∧ (i : Int) < y then blankC p else cAt cs i
theorem eraseTab_is (cs : List Cel) (x y : Int) (p : Pn) : eraseTab cs x y p = tab cs.length (eraseAt cs x y p) := rfl
theorem eraseAt_no {cs : List Cel} {x y : Int} {p : Pn} {i : Nat} (h : ¬ (x ≤ (i : Int) ∧ (i : Int) < y)) : eraseAt cs x y p i = cAt cs i := by unfold eraseAt; rw [if_neg h]
theorem eraseAt_yes {cs : List Cel} {x y : Int} {p : Pn} {i : Nat} (h : x ≤ (i : Int) ∧ (i : Int) < y) : eraseAt cs x y p i = blankC p := by unfold eraseAt; rw [if_pos h]
def fitAt (cs : List Cel) (i : Nat) : Cel := if i < cs.length then cAt cs i else blankC zeroP
theorem fitTab_is (cs : List Cel) (n : Int) : fitTab cs n = tab (lenN n) (fitAt cs) := rfl
theorem fitAt_yes {cs : List Cel} {i : Nat} (h : i < cs.length) : fitAt cs i = cAt cs i := by unfold fitAt; rw [if_pos h]
theorem fitAt_no {cs : List Cel} {i : Nat} (h : ¬ i < cs.length) : fitAt cs i = ⟨32, 0, 0, 1, ⟨0, 0, 0⟩⟩ := by unfold fitAt; rw [if_neg h]; rfl
theorem rerase_any (A : Option Addr) (n c : Nat) (X Y : Int) (F G B : Nat) (cs : List Cel) (w : World) (h : Cels .i64 w A cs) (hn : cs.length = n) (hl : n ≤ 1000000) :
  Calls Tryz.prog 102 #[.slice A n c, .int .i64 X, .int .i64 Y, .agg #[.int .u8 F, .int .u8 G, .int .u8 B]] w (MadeC 95 .i64 w (eraseC cs X Y ⟨F, G, B⟩)) := by
 have HN := hide hn
 obtain ⟨W0, hW0⟩ := exq (w.alloc (.cells #[.int .u8 F, .int .u8 G, .int .u8 B] 93))
 have HB0 : Hid (Below w.heap.size w W0) := by unfold Hid; rw [← hW0]; exact (Below.refl _ _).alloc (Nat.le_refl _) _
 have HP0 : Hid (Whole W0 w.heap.size 93 [.int .u8 F, .int .u8 G, .int .u8 B]) := by unfold Hid; rw [← hW0]; exact Whole.new _ _ _
 have HC : Hid (Cels .i64 W0 A cs) := by unfold Hid; rw [← hW0]; exact h.alloc _
 have HW0 := hide hW0; clear h hn hW0
 go_enter Tryz.func102, Tryz.ntmps102
 go_wp2; rw [HW0.out]
 go_loopw [9, 10, 11] (fun v i _ wr => ∃ k : Nat, k ≤ n ∧ i = .int .i64 k ∧ OwnC 95 .i64 W0.heap.size W0 wr v (tab k (eraseAt cs X Y ⟨F, G, B⟩))) (fun _ i _ _ => n - (intOf i).toNat)
 case atStart => exact ⟨0, Nat.zero_le _, rfl, OwnC.start (Nat.le_refl _)⟩
 case round =>
  obtain ⟨k, hk, rfl, hown⟩ := hrel
  have HV := hide hown; clear hown
  by_cases hlt : k < n
  ·obtain ⟨b1, o1, rfl, l1, -⟩ := HC.out.at (i := k) (by rw [HN.out]; exact hlt)
   obtain ⟨⟨r, x, y, z, ⟨f, g, b⟩⟩, hc⟩ : ∃ q, cAt cs k = q := ⟨_, rfl⟩
   obtain ⟨a0, a1, a2, a3, a4, a5, a6, -⟩ := (HC.out.below HV.out.bel).sevenC k (by rw [HN.out]; exact hlt) hc
   have HK := hide hc; clear hc
   have cases3 : (X ≤ (k : Int) ∧ (k : Int) < Y) ∨ (k : Int) < X ∨ (X ≤ (k : Int) ∧ Y ≤ (k : Int)) := by omega
   rcases cases3 with ⟨h1, h2⟩ | h1 | ⟨h1, h2⟩
   ·have HM := hide (eraseAt_yes (cs := cs) (p := ⟨F, G, B⟩) ⟨h1, h2⟩)
    obtain ⟨p0, p1, p2, pl⟩ := cells3 (HP0.out.later HV.out.bel)
    obtain ⟨W1, hW1⟩ := exq (wr.alloc (.cells #[.int .i64 r, .int .i64 x, .int .i64 y, .int .u8 z, .int .u8 f, .int .u8 g, .int .u8 b] 95))
    have HA : Hid (Whole W1 wr.heap.size 95 [.int .i64 r, .int .i64 x, .int .i64 y, .int .u8 z, .int .u8 f, .int .u8 g, .int .u8 b]) := by unfold Hid; rw [← hW1]; exact Whole.new _ _ _
    have HBB : Hid (Below wr.heap.size wr W1) := by unfold Hid; rw [← hW1]; exact (Below.refl _ _).alloc (Nat.le_refl _) _
    have HW1 := hide hW1; clear hW1; go_wp2_with fail
    rw [HW1.out]
    refine (rblank_v F G B W1).mono ?_
    rintro e w2 ⟨rfl, hb2⟩
    have HB2 := hide (HBB.out.trans (hb2.mono HBB.out.size))
    have HA2 := hide (HA.out.later hb2)
    clear a0 a1 a2 a3 a4 a5 a6 p0 p1 p2 pl hb2
    obtain ⟨a0, a1, a2, a3, a4, a5, a6, a7⟩ := cells7 HA2.out
    go_wp2_with (at_builtin; refine stopw ?_)
    unfold Hid
    refine wpList_pushQ elemLC ⟨32, 0, 0, 1, ⟨F, G, B⟩⟩ (w2.heap.size) rfl _ _ rfl rfl rfl (HV.out.later (below_put7 HB2.out (Nat.le_refl _) _ _ _ _ _ _ _)) (by simp) (by rw [tab_len]; omega) (by omega) ?_
    intro v' wn hn1
    have HV' := hide (hn1.snoc HM.out)
    clear hn1 a0 a1 a2 a3 a4 a5 a6 a7; go_wp2
    go_roundw
    case rel => exact ⟨k + 1, by omega, by go_num, HV'.out⟩
    case measure => simp [intOf]; omega
   ·have HM := hide (eraseAt_no (cs := cs) (y := Y) (p := ⟨F, G, B⟩) (i := k) (x := X) (by omega))
    rw [HK.out] at HM
    go_wp2_with (at_builtin; refine stopw ?_)
    unfold Hid
    refine wpList_pushQ elemLC ⟨r, x, y, z, ⟨f, g, b⟩⟩ (wr.heap.size + 1) rfl _ _ rfl rfl rfl (HV.out.alloc _) (by simp) (by rw [tab_len]; omega) (by omega) ?_
    intro v' wn hn1
    have HV' := hide (hn1.snoc HM.out)
    clear hn1 a0 a1 a2 a3 a4 a5 a6; go_wp2
    go_roundw
    case rel => exact ⟨k + 1, by omega, by go_num, HV'.out⟩
    case measure => simp [intOf]; omega
   ·have HM := hide (eraseAt_no (cs := cs) (y := Y) (p := ⟨F, G, B⟩) (i := k) (x := X) (by omega))
    rw [HK.out] at HM
    go_wp2_with (at_builtin; refine stopw ?_)
    unfold Hid
    refine wpList_pushQ elemLC ⟨r, x, y, z, ⟨f, g, b⟩⟩ (wr.heap.size + 1) rfl _ _ rfl rfl rfl (HV.out.alloc _) (by simp) (by rw [tab_len]; omega) (by omega) ?_
    intro v' wn hn1
    have HV' := hide (hn1.snoc HM.out)
    clear hn1 a0 a1 a2 a3 a4 a5 a6; go_wp2
    go_roundw
    case rel => exact ⟨k + 1, by omega, by go_num, HV'.out⟩
    case measure => simp [intOf]; omega
  ·obtain rfl : k = n := by omega
   obtain ⟨A3, c3, hv, hc3, hcap, hnil, hmax⟩ := HV.out.form
   rw [tab_len] at hv
   subst hv
   have HC3 : Hid (Cels .i64 wr A3 (eraseTab cs X Y ⟨F, G, B⟩)) := by unfold Hid; rw [eraseTab_is, HN.out]; exact hc3
   clear hc3 hcap hnil hmax; go_wp2_with fail
   refine (rmend_any A3 k c3 (eraseTab cs X Y ⟨F, G, B⟩) wr HC3.out (by rw [eraseTab_len, HN.out]) hl).mono ?_
   rintro e w2 ⟨v2, rfl, ho2⟩
   have HO2 := hide (ho2.from (HV.out.bel) HV.out.le)
   clear ho2; go_wp2; go_ret
   exact ⟨_, rfl, HO2.out.from HB0.out HB0.out.size⟩
theorem rlfit_any (A : Option Addr) (n c : Nat) (X : Int) (cs : List Cel) (w : World) (h : Cels .i64 w A cs) (hn : cs.length = n) (hl : n ≤ 1000000) :
  Calls Tryz.prog 83 #[.slice A n c, .int .i64 X] w (MadeC 95 .i64 w (fitC cs X)) := by
 have HN := hide hn; have HC := hide h
 obtain ⟨N, hN⟩ := exq (lenN X)
 have hNl : N ≤ 512 := by rw [← hN]; exact lenN_le X
 have HX := hide hN; clear h hn hN
 go_enter Tryz.func83, Tryz.ntmps83
 go_wp2
 go_loopw [5, 6, 7] (fun v i _ wr => ∃ k : Nat, k ≤ N ∧ i = .int .i64 k ∧ OwnC 95 .i64 w.heap.size w wr v (tab k (fitAt cs))) (fun _ i _ _ => N - (intOf i).toNat)
 case atStart => exact ⟨0, Nat.zero_le _, rfl, OwnC.start (Nat.le_refl _)⟩
 case round =>
  obtain ⟨k, hk, rfl, hown⟩ := hrel
  have HV := hide hown; clear hown; go_wp2_with fail
  refine (length_any X wr).mono ?_
  rintro e w1 ⟨rfl, rfl⟩
  rw [HX.out]
  by_cases hlt : k < N
  ·go_wp2_with fail
   refine (rblank_v 0 0 0 wr).mono ?_
   rintro e w1 ⟨rfl, hb1⟩
   have HV1 := hide (HV.out.later hb1)
   clear hb1
   by_cases hin : k < n
   ·obtain ⟨b1, o1, rfl, l1, -⟩ := HC.out.at (i := k) (by rw [HN.out]; exact hin)
    have l2 : b1 < w1.heap.size := Nat.lt_of_lt_of_le l1 HV1.out.le
    obtain ⟨⟨r, x, y, z, ⟨f, g, b⟩⟩, hc⟩ : ∃ q, cAt cs k = q := ⟨_, rfl⟩
    obtain ⟨a0, a1, a2, a3, a4, a5, a6, -⟩ := (HC.out.below HV1.out.bel).sevenC k (by rw [HN.out]; exact hin) hc
    have HM := hide (fitAt_yes (cs := cs) (i := k) (by rw [HN.out]; exact hin))
    rw [hc] at HM
    clear hc
    go_wp2_with (at_builtin; refine stopw ?_)
    unfold Hid
    refine wpList_pushQ elemLC ⟨r, x, y, z, ⟨f, g, b⟩⟩ (w1.heap.size + 1) rfl _ _ rfl rfl rfl (HV1.out.alloc _) (by simp) (by rw [tab_len]; omega) (by omega) ?_
    intro v' wn hn1
    have HV' := hide (hn1.snoc HM.out)
    clear hn1 a0 a1 a2 a3 a4 a5 a6; go_wp2
    go_roundw
    case rel => exact ⟨k + 1, by omega, by go_num, HV'.out⟩
    case measure => simp [intOf]; omega
   ·have HM := hide (fitAt_no (cs := cs) (i := k) (by rw [HN.out]; exact hin))
    go_wp2_with (at_builtin; refine stopw ?_)
    unfold Hid
    refine wpList_pushQ elemLC ⟨32, 0, 0, 1, ⟨0, 0, 0⟩⟩ (w1.heap.size + 1) rfl _ _ rfl rfl rfl (HV1.out.alloc _) (by simp) (by rw [tab_len]; omega) (by omega) ?_
    intro v' wn hn1
    have HV' := hide (hn1.snoc HM.out)
    clear hn1 hin; go_wp2
    go_roundw
    case rel => exact ⟨k + 1, by omega, by go_num, HV'.out⟩
    case measure => simp [intOf]; omega
  ·obtain rfl : k = N := by omega
   obtain ⟨A3, c3, hv, hc3, hcap, hnil, hmax⟩ := HV.out.form
   rw [tab_len] at hv
   subst hv
   have HC3 : Hid (Cels .i64 wr A3 (fitTab cs X)) := by unfold Hid; rw [fitTab_is, HX.out]; exact hc3
   clear hc3 hcap hnil hmax; go_wp2_with fail
   refine (rmend_any A3 k c3 (fitTab cs X) wr HC3.out (by rw [fitTab_len, HX.out]) (by omega)).mono ?_
   rintro e w2 ⟨v2, rfl, ho2⟩
   have HO2 := hide (ho2.from (HV.out.bel) HV.out.le)
   clear ho2; go_wp2; go_ret
   exact ⟨_, rfl, HO2.out⟩
end
end Go.Proofs.YtoddfaoifnkhlaaGreatDoor
