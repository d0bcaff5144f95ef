/-
  Words of the laws' walks: sizes, bytes.
-/
import Derived.Test.YthogcfjlipaekaaDoorDeBytes
import Derived.Test.YthogcfjlipaekaaDoorDeTake4
import Derived.Test.YthogcfjlipaekaaDoorDeRef2
import Derived.Test.YthogcfjlipaekaaDoorDeRef4
import Derived.Test.YthogcfjlipaekaaDoorDeKnown
import Derived.Test.YthogcfjlipaekaaDoorB19
import Derived.Test.YthogcfjlipaekaaDoorB20
namespace Go.Proofs.YthogcfjlipaekaaDoor
set_option maxRecDepth 100000
open Go.ChangeShapes Go.WideShapes Go.ChangeAt Go.RowKit
set_option linter.unusedVariables false

theorem encN_byte (n : Nat) (h : n < 18446744073709551616) : Byte (enc n) := by
  have := encAll_byte [(n : Int)] (by intro z hz; simp only [List.mem_cons, List.not_mem_nil, or_false] at hz; omega)
  rwa [encAll_one, Int.toNat_natCast] at this
theorem bytes_app {a b : List Int} (ha : Byte a) (hb : Byte b) : Byte (a ++ b) := by
  intro x hx
  rcases List.mem_append.1 hx with h | h
  · exact ha x h
  · exact hb x h
theorem bytesS_byte {s : Sp} (h : SpFine s) : Byte (bytesS s) := by
  obtain ⟨r, hr, hr2⟩ := h.row
  obtain ⟨c, hc, hc2⟩ := h.col
  unfold bytesS
  rw [hr, hc, Int.toNat_natCast, Int.toNat_natCast]
  exact bytes_app (encN_byte r (by omega)) (bytes_app (encN_byte c (by omega)) (bytesR_byte h.len h.right))
theorem bytesSs_byte {ss : List Sp} (h : ∀ s ∈ ss, SpFine s) : Byte (bytesSs ss) := by
  intro x hx
  unfold bytesSs at hx
  obtain ⟨s, hs, hx⟩ := List.mem_flatMap.1 hx
  exact bytesS_byte (h s hs) x hx
theorem bytesDe_byte {d : Df} (hd : checkDe d = 0) : Byte (bytesDe d) := by
  obtain ⟨-, ⟨a, ha, ha2⟩, ⟨b, hb, hb2⟩, ⟨c, hc, hc2⟩, ⟨e, he, he2⟩, hm, hs⟩ := fine_of hd
  unfold bytesDe
  rw [ha, hb, hc, he]
  simp only [Int.toNat_natCast]
  exact bytes_app (encN_byte a (by omega)) (bytes_app (encN_byte b (by omega)) (bytes_app (encN_byte c (by omega)) (bytes_app (encN_byte e (by omega)) (bytes_app (encN_byte _ (by omega)) (bytesSs_byte hs)))))
theorem bytesS_len (s : Sp) : (bytesS s).length ≤ 30 + 70 * s.cs.length := by
  unfold bytesS
  simp only [List.length_append]
  have h1 := (enc_len s.row.toNat).2
  have h2 := (enc_len s.col.toNat).2
  have h3 := bytesR_len s.cs
  omega
theorem bytesSs_len {ss : List Sp} (h : ∀ s ∈ ss, s.cs.length ≤ 30) : (bytesSs ss).length ≤ 2130 * ss.length := by
  induction ss with
  | nil => simp [bytesSs]
  | cons s ss ih =>
    have e : bytesSs (s :: ss) = bytesS s ++ bytesSs ss := rfl
    rw [e, List.length_append, List.length_cons]
    have h1 := bytesS_len s
    have h2 := h s (List.mem_cons_self)
    have h3 := ih (fun x hx => h x (List.mem_cons_of_mem _ hx))
    omega
theorem cut_small (d : Df) : (bytesSs (cutD d).ss).length ≤ 30000 := by
  have h1 := bytesSs_len (cut_cells d)
  have h2 : (cutD d).ss.length ≤ 10 := cutTo_len d.ss 10
  omega
theorem dfok_put {te t t' : TypeId} {k : IntKind} {w : World} {d : Df} {A : Option Addr} {c q : Nat} {l : List Value} (h : DfOk 0 te t k w d A c) (hw : Whole w q t' l) (h1 : te ≠ t') (h2 : t ≠ t') (x0 x1 x2 x3 x4 : Value) :
    DfOk 0 te t k (((((w.setCell ⟨q, 0, none⟩ x0).setCell ⟨q, 1, none⟩ x1).setCell ⟨q, 2, none⟩ x2).setCell ⟨q, 3, none⟩ x3).setCell ⟨q, 4, none⟩ x4) d A c :=
  ⟨h.sps.keep (fun b => nob b) (stays_put5 hw h2 _ _ _ _ _) (stays_put5 hw h1 _ _ _ _ _), h.cap, h.none, Nat.zero_le _⟩
theorem dec_self (x : Df) : decide (x = x) = true := decide_eq_true rfl
theorem Sps.up {C C' : Nat} {te t : TypeId} {k : IntKind} {w : World} {A : Option Addr} {ss : List Sp} (h : Sps C te t k w A ss) (hC : C ≤ C') : Sps C' te t k w A ss := by
  obtain ⟨l, he, hok, h⟩ := h
  refine ⟨l, he, fun x hx => ⟨(hok x hx).1.more hC, (hok x hx).2⟩, ?_⟩
  rcases h with h | ⟨b, off, ha, hb, hc⟩
  · exact .inl h
  · exact .inr ⟨b, off, ha, by rcases hb with q | q; exact .inl (by omega); exact .inr q, hc⟩
end Go.Proofs.YthogcfjlipaekaaDoor
