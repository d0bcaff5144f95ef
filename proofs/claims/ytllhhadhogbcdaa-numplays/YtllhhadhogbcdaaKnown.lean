/-
  Contracts: bytes compared, the document's All, a reader of no bytes, and the chapter's examples.
-/
import Derived.Test.YtllhhadhogbcdaaBytes
import Derived.Lib.SliceRun
namespace Go.Proofs.Ytllhhadhogbcdaa
open Go.ChangeShapes Go.WideShapes Go.ChangeAt Go.RowKit

set_option maxHeartbeats 400000 in
theorem same_yes (A B : Option Addr) (n c d : Nat) (bs : List Int) (w : World) (ha : Ints .u8 w A bs) (hb : Ints .u8 w B bs) (hn : bs.length = n) (hy : Byte bs) :
    Calls Try.prog 10 #[.slice A n c, .slice B n d] w fun e w' => e = .returned (.bool true) ∧ w = w' := by
  have r1 := run_strOf (P := Try.prog) w 23 9 5 Try.underlying23 Try.underlying5 Try.underlying9 A c bs ha hy
  have r2 := run_strOf (P := Try.prog) w 23 9 5 Try.underlying23 Try.underlying5 Try.underlying9 B d bs hb hy
  rw [hn] at r1 r2
  generalize strOf bs = s at r1 r2
  clear hn ha hb hy
  go_enter Try.func10, Try.ntmps10
  go_wp2
  go_ret
  simp

set_option maxHeartbeats 1000000 in
theorem all_any (a : Option Addr) (len cap : Nat) (zs : List Int) (w : World) (h : Ints .u64 w a zs) (hl : zs.length = len) (hlen : len ≤ 100) (hz : ∀ z ∈ zs, 0 ≤ z ∧ z < 18446744073709551616) :
    Calls Try.prog 11 #[.slice a len cap] w (Made w (encAll zs)) := by
  have HL := hide hl
  clear hl
  go_enter Try.func11, Try.ntmps11
  go_wp2
  go_loopw [3, 4] (fun v i wr => ∃ k : Nat, k ≤ len ∧ i = .int .i64 k ∧ Own 5 .u8 w.heap.size w wr v (encAll (zs.take k)))
    (fun _ i _ => len - (intOf i).toNat)
  case atStart => exact ⟨0, Nat.zero_le _, rfl, Own.start (Nat.le_refl _)⟩
  case round =>
    obtain ⟨k, hk, rfl, hown⟩ := hrel
    by_cases hlt : k < len
    · obtain ⟨b, off, rfl, hc, hb⟩ := h.at (i := k) (by rw [HL.out]; exact hlt)
      have hcx : wr.cell? ⟨b, off + k, none⟩ = some (.int .u64 (zs.getD k 0)) := (hown.bel.cell (by exact hb)).trans hc
      obtain ⟨n, hn, hn64⟩ := getD_nat zs hz k (by rw [HL.out]; exact hlt)
      rw [hn] at hcx
      have hl1 := encAll_len (zs.take k)
      have hl2 := (enc_len n).2
      have hl3 : (zs.take k).length ≤ k := List.length_take_le _ _
      have HT : Hid (encAll (zs.take (k + 1)) = encAll (zs.take k) ++ enc n) := by
        unfold Hid
        rw [List.take_succ_eq_append_getElem (by rw [HL.out]; exact hlt), encAll_append, encAll_one]
        rw [List.getD_eq_getElem?_getD, List.getElem?_eq_getElem (by rw [HL.out]; exact hlt)] at hn
        simp at hn
        rw [hn, Int.toNat_natCast]
      clear hn hc
      go_wp2_with fail
      refine (rbytes_any n wr hn64).mono ?_
      rintro e w1 ⟨v, rfl, hv⟩
      obtain ⟨A, c, rfl, hi, hc, hc0⟩ := hv.form
      have hown1 := hown.later hv.bel
      go_wp2_with (at_builtin; refine wpList_cat elem23 rfl _ _ rfl rfl rfl hown1 hi rfl hc0 (by omega) (by omega) ?_; intro v' w2 hown2)
      go_roundw
      case rel => exact ⟨k + 1, by omega, by go_num, by rw [HT.out]; exact hown2⟩
      case measure => simp [intOf]; omega
    · go_wp2
      go_ret
      exact ⟨_, rfl, by rw [List.take_of_length_le (by rw [HL.out]; omega)] at hown; exact hown⟩

set_option maxHeartbeats 400000 in
theorem clone_any (A : Option Addr) (n c : Nat) (bs : List Int) (w : World) (h : Ints .u8 w A bs) (hn : bs.length = n) (hc : A = none → c = 0) (hlen : n ≤ 1000000) :
    Calls Try.prog 38 #[.slice A n c] w (Made w bs) := by
  have HN := hide hn
  clear hn
  cases A with
  | none =>
    have hn : bs = [] := by
      rcases h with h | ⟨_, _, h, _⟩
      · exact h
      · cases h
    subst hn
    obtain rfl : c = 0 := hc rfl
    obtain rfl : n = 0 := HN.out.symm
    clear h hc HN hlen
    have e0 : ∀ W, (binOp .eql 23 (.slice none 0 0) (.slice none 0 0)).run Try.prog W = .ok (.bool true) W := fun W => Lib.run_eql_slice_nil (P := Try.prog) W 23 5 none 0 0 0 0 Try.underlying23
    go_enter Try.func38, Try.ntmps38
    go_wp2
    go_ret
    exact ⟨_, rfl, Own.start (Nat.le_refl _)⟩
  | some ad =>
    obtain rfl : bs.length = n := HN.out
    clear HN hc
    have e0 := fun W => Lib.run_eql_slice_nil (P := Try.prog) W 23 5 (some ad) bs.length c 0 0 Try.underlying23
    have ho := Own.empty w 5 .u8
    have hi := h.alloc (.cells #[] 5)
    clear h
    go_enter Try.func38, Try.ntmps38
    go_wp2_with (at_builtin; refine wpList_cat elem23 rfl _ _ rfl rfl rfl ho hi rfl (fun h => by cases h) (by simpa using hlen) (by omega) ?_; intro v' w2 hown2)
    go_ret
    exact ⟨_, rfl, hown2⟩

/-- A reader: its bytes that are left lie in the slice of its first cell; its place; its error. -/
structure Rdr (w : World) (g : Nat) (A : Option Addr) (cap : Nat) (bs : List Int) (pl er : Int) : Prop where
  blk : w.heap[g]? = some (.cells #[.slice A bs.length cap, .int .i64 pl, .int .i64 er] 72 (0, 0))
  ints : Ints .u8 w A bs
  cap_ : bs.length ≤ cap
  nil_ : A = none → cap = 0

set_option maxHeartbeats 400000 in
theorem new_any (A : Option Addr) (n c : Nat) (bs : List Int) (w : World) (h : Ints .u8 w A bs) (hn : bs.length = n) (hc : A = none → c = 0) (hlen : n ≤ 1000000) :
    Calls Try.prog 21 #[.slice A n c] w fun e w' => ∃ g A' c', e = .returned (.pointer (some ⟨g, 0, none⟩)) ∧ Rdr w' g A' c' bs 0 0 ∧ w.heap.size ≤ g ∧ Below w.heap.size w w' := by
  have HN := hide hn
  clear hn
  go_enter Try.func21, Try.ntmps21
  go_wp2_with fail
  refine (clone_any A n c bs _ h HN.out hc hlen).mono ?_
  rintro e w1 ⟨v, rfl, hv⟩
  obtain ⟨A', c', rfl, hi, hc', hc0⟩ := hv.form
  go_wp2
  go_ret
  exact ⟨w1.heap.size, A', c', rfl, ⟨heap_alloc_new w1 _, hi.alloc _, hc', hc0⟩, hv.le, hv.bel.alloc hv.le _⟩

set_option maxHeartbeats 400000 in
theorem err_any (g : Nat) (A : Option Addr) (c : Nat) (bs : List Int) (pl er : Int) (w : World) (h : Rdr w g A c bs pl er) :
    Calls Try.prog 31 #[.pointer (some ⟨g, 0, none⟩)] w fun e w' => e = .returned (.int .i64 er) ∧ w = w' := by
  have hc : w.cell? ⟨g, 2, none⟩ = some (.int .i64 er) := by rw [cell_of_row w g 2 _ 72 (0, 0) h.blk]; rfl
  clear h
  go_enter Try.func31, Try.ntmps31
  go_wp2
  go_ret
  exact ⟨rfl, rfl⟩

theorem size_max (w : World) : Calls Try.prog 13 #[.int .u64 18446744073709551615] w fun e w' => e = .returned (.int .i64 10) ∧ w = w' := by
  have h := size_any 18446744073709551615 w (by omega)
  have e : (enc 18446744073709551615).length = 10 := by decide
  rw [e] at h
  exact h
theorem add_max (w : World) : Calls Try.prog 17 #[.int .u64 18446744073709551615, .int .u64 1] w fun e w' => e = .returned (.int .u64 18446744073709551615) ∧ w = w' := by
  have h := add_any 18446744073709551615 1 w (by omega) (by omega) (by omega) (by omega)
  have e : addU 18446744073709551615 1 = 18446744073709551615 := by decide
  rw [e] at h
  exact h
theorem sub_low (w : World) : Calls Try.prog 18 #[.int .u64 1, .int .u64 2] w fun e w' => e = .returned (.int .u64 0) ∧ w = w' := by
  have h := sub_any 1 2 w (by omega) (by omega) (by omega) (by omega)
  have e : subU 1 2 = 0 := by decide
  rw [e] at h
  exact h

set_option maxHeartbeats 400000 in
theorem known_any (w : World) : Calls Try.prog 15 #[] w fun e w' => e = .returned (.bool true) ∧ Below w.heap.size w w' := by
  go_enter Try.func15, Try.ntmps15
  go_wp2_with fail
  refine (bytes_any _ 2 2 [0, 300] _ (Ints.new .u64 w 27 [0, 300]) rfl (by omega) (by decide)).mono ?_
  rintro e w1 ⟨v, rfl, hv⟩
  obtain ⟨A, c, rfl, hi, hc, hc0⟩ := hv.form
  have hb1 : Below w.heap.size w w1 := ((Below.refl _ _).alloc (Nat.le_refl _) _).trans (hv.bel.mono (by simp))
  have he : encAll [0, 300] = [0, 172, 2] := by decide
  rw [he] at hi
  clear hc hc0
  go_wp2_with fail
  refine (same_yes _ _ 3 _ _ [0, 172, 2] _ (hi.alloc _) (Ints.new .u8 w1 5 [0, 172, 2]) rfl (by unfold Byte; decide)).mono ?_
  rintro e w2 ⟨rfl, rfl⟩
  go_wp2_with fail
  refine (size_max _).mono ?_
  rintro e w2 ⟨rfl, rfl⟩
  go_wp2_with fail
  refine (add_max _).mono ?_
  rintro e w2 ⟨rfl, rfl⟩
  go_wp2_with fail
  refine (sub_low _).mono ?_
  rintro e w2 ⟨rfl, rfl⟩
  go_wp2_with fail
  refine (new_any none 0 0 [] _ .nil rfl (fun _ => rfl) (by omega)).mono ?_
  rintro e w2 ⟨g, A', c', rfl, hr, hg, hb2⟩
  go_wp2_with fail
  refine (err_any g A' c' [] 0 0 _ hr).mono ?_
  rintro e w3 ⟨rfl, rfl⟩
  go_wp2
  go_ret
  exact ⟨rfl, (hb1.alloc hb1.size _).trans (hb2.mono (by have := hb1.size; simp; omega))⟩
end Go.Proofs.Ytllhhadhogbcdaa
