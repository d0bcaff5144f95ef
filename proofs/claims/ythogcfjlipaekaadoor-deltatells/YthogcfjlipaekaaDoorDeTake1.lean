/-
  Contracts: the sides that a reader tells, each put where its pointer points (the program's takeSides).
-/
import Derived.Test.YthogcfjlipaekaaDoorB20
import Derived.Test.YthogcfjlipaekaaDoorB14
import Derived.Test.YthogcfjlipaekaaDoorB19
namespace Go.Proofs.YthogcfjlipaekaaDoor
set_option maxRecDepth 100000
open Go.ChangeShapes Go.WideShapes Go.ChangeAt Go.RowKit
set_option linter.unusedVariables false

/-- The sides that are told next. -/
def sidesD (xs : List Int) (s : Nat × Int) : Nat → (Nat × Int) × List Int
  | 0 => (s, [])
  | i + 1 => ((upD xs (sidesD xs s i).1 512 5).1, (sidesD xs s i).2 ++ [(upD xs (sidesD xs s i).1 512 5).2])
theorem sides_next (xs : List Int) (s : Nat × Int) (i : Nat) : sidesD xs s (i + 1) = ((upD xs (sidesD xs s i).1 512 5).1, (sidesD xs s i).2 ++ [(upD xs (sidesD xs s i).1 512 5).2]) := rfl
theorem sides_len (xs : List Int) (s : Nat × Int) (n : Nat) : (sidesD xs s n).2.length = n := by
  induction n with
  | zero => rfl
  | succ n ih => rw [sides_next, List.length_append, ih]; rfl
/-- Pointers to the first n cells of the block q. -/
def ptrsTo (q n : Nat) : List Value := (List.range n).map fun i => .pointer (some ⟨q, i, none⟩)
theorem ptrs_at {q n k : Nat} (h : k < n) : (ptrsTo q n)[k]? = some (.pointer (some ⟨q, k, none⟩)) := by
  unfold ptrsTo
  rw [List.getElem?_map, List.getElem?_range h]
  rfl
theorem set_side (a : List Int) (L : List Value) (v : Int) (h : a.length < L.length) : (a.map (Value.int .i64) ++ L.drop a.length).set a.length (.int .i64 v) = (a ++ [v]).map (Value.int .i64) ++ L.drop (a.length + 1) := by
  rw [List.set_append_right _ _ (by simp), List.length_map, Nat.sub_self, List.drop_eq_getElem_cons h]
  simp only [List.set_cons_zero, List.map_append, List.map_cons, List.map_nil, List.append_assoc, List.cons_append, List.nil_append]
theorem Trn.of_g {g q : Nat} {w w' : World} (h : Only g w w') : Trn g q q w w' := ⟨h.os, h.tape, h.output, h.size, fun i hi h1 _ _ => h.block i hi (by simpa using h1)⟩
theorem Trn.of_q {g q : Nat} {w w' : World} (h : Only q w w') : Trn g q q w w' := ⟨h.os, h.tape, h.output, h.size, fun i hi _ _ h3 => h.block i hi (by simpa using h3)⟩
theorem Trn.onlyq {g q : Nat} {w w1 : World} (h : Trn g q q w w1) {i : Nat} (x : Value) : Trn g q q w (w1.setCell ⟨q, i, none⟩ x) := h.trans (.of_q (Only.put i x)) (.inl rfl)
/-- .. where the second block is new: the first one alone has turned. -/
theorem Trn.only {g q : Nat} {w w0 w1 : World} (h : Trn g q q w0 w1) (hb : Below w.heap.size w w0) (hq : w.heap.size ≤ q) : Only g w w1 :=
  ⟨h.os.trans hb.os, h.tape.trans hb.tape, h.output.trans hb.output, Nat.le_trans hb.size h.size, fun i hi hne => (h.block i (Nat.lt_of_lt_of_le hi hb.size) (by simpa using hne) (by omega) (by omega)).trans (hb.block i hi)⟩

set_option maxHeartbeats 1000000 in
theorem takesides_any (g q Q : Nat) (t : TypeId) (n : Nat) (L : List Value) (xs : List Int) (s : Nat × Int) (w : World) (h : RdS w g xs s) (hb : Byte xs) (hl : xs.length ≤ 1000000)
    (hQ : Whole w Q 101 (ptrsTo q n)) (hq : Whole w q t L) (hn : n ≤ L.length) (hn2 : n ≤ 1000) (ht : t ≠ 5) (hgq : g ≠ q) (hgQ : g ≠ Q) (hQq : Q ≠ q) :
    Calls Tryd.prog 46 #[.pointer (some ⟨g, 0, none⟩), .slice (some ⟨Q, 0, none⟩) n n] w fun e w' => e = .returned (.tuple #[]) ∧ RdS w' g xs (sidesD xs s n).1 ∧ Whole w' q t ((sidesD xs s n).2.map (Value.int .i64) ++ L.drop n) ∧ Trn g q q w w' := by
  have HR := hide h
  have HQ := hide hQ
  have HX := hide hq
  have HNL := hide hn
  have HT := hide ht
  have HGQ := hide hgq
  have HGP := hide hgQ
  have HPQ := hide hQq
  clear h hQ hq hn ht hgq hgQ hQq
  go_enter Tryd.func46, Tryd.ntmps46
  go_wp2
  go_loopw [5, 8] (fun _ i wr => ∃ k : Nat, k ≤ n ∧ i = .int .i64 k ∧ Hid (RdS wr g xs (sidesD xs s k).1) ∧ Hid (Whole wr q t ((sidesD xs s k).2.map (Value.int .i64) ++ L.drop k)) ∧ Hid (Trn g q q w wr)) (fun _ i _ => n - (intOf i).toNat)
  case atStart => exact ⟨0, Nat.zero_le _, rfl, HR, HX, Trn.refl⟩
  case round =>
    obtain ⟨k, hk, rfl, HRk, HXk, HTk⟩ := hrel
    by_cases hlt : k < n
    · have HNX := hide (sides_next xs s k)
      obtain ⟨⟨s1, l1⟩, hS⟩ : ∃ S, sidesD xs s k = S := ⟨_, rfl⟩
      have HLK : Hid (l1.length = k) := by have := sides_len xs s k; rw [hS] at this; exact this
      rw [hS] at HRk HXk HNX
      simp only at HRk HXk HNX
      have KEY := hide (upto_s g xs s1 512 wr HRk.out hb hl (by omega))
      obtain ⟨⟨s2, v⟩, hU⟩ : ∃ U, upD xs s1 512 5 = U := ⟨_, rfl⟩
      rw [hU] at KEY HNX
      simp only at KEY HNX
      clear hS hU
      have q0 : wr.cell? ⟨Q, k, none⟩ = some (.pointer (some ⟨q, k, none⟩)) := by rw [(HTk.out.whole HQ.out (Ne.symm HGP.out) HPQ.out HPQ.out).cell, ptrs_at hlt]
      have lq : Q < wr.heap.size := (HTk.out.whole HQ.out (Ne.symm HGP.out) HPQ.out HPQ.out).lt
      go_wp2_with fail
      refine KEY.out.mono ?_
      rintro e w1 ⟨rfl, ho, hr⟩
      have HX1 := hide (HXk.out.far ho (Ne.symm HGQ.out))
      have HR1 := hide hr
      have HT1 := hide (HTk.out.trans (.of_g ho) (.inl rfl))
      clear ho hr q0 lq
      obtain ⟨old, x0⟩ : ∃ old, w1.cell? ⟨q, k, none⟩ = some old := by
        have := HNL.out
        have hlen : k < (l1.map (Value.int .i64) ++ L.drop k).length := by rw [List.length_append, List.length_map, HLK.out, List.length_drop]; omega
        exact ⟨_, (HX1.out.cell k).trans (List.getElem?_eq_getElem hlen)⟩
      have z0 := HX1.out.frozen k
      have l0 := HX1.out.lt
      have HR2 : Hid (RdS (w1.setCell ⟨q, k, none⟩ (.int .i64 v)) g xs s2) := HR1.out.putq HX1.out HT.out HGQ.out
      have HX2 : Hid (Whole (w1.setCell ⟨q, k, none⟩ (.int .i64 v)) q t ((l1 ++ [v]).map (Value.int .i64) ++ L.drop (k + 1))) := by
        have := HX1.out.put k (.int .i64 v)
        have e := set_side l1 L v (by have := HNL.out; have := HLK.out; omega)
        rw [HLK.out] at e
        rw [e] at this
        exact this
      have HT2 : Hid (Trn g q q w (w1.setCell ⟨q, k, none⟩ (.int .i64 v))) := HT1.out.onlyq _
      go_wp2
      go_roundw
      case rel => exact ⟨k + 1, by omega, by go_num, by rw [HNX.out]; exact HR2, by rw [HNX.out]; exact HX2, HT2⟩
      case measure => simp [intOf]; omega
    · obtain rfl : k = n := by omega
      go_wp2
      go_end0
      exact ⟨rfl, HRk.out, HXk.out, HTk.out⟩
end Go.Proofs.YthogcfjlipaekaaDoor
