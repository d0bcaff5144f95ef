/-
  A scalar's bytes, those of many: plain mathematics and contracts (both).
-/
import Derived.Test.YtdeoeihbmdgipaaDoorWRef
import Derived.Laws.BitsAllLaws
namespace Go.Proofs.YtdeoeihbmdgipaaDoor
open Go.ChangeShapes Go.WideShapes Go.ChangeAt Go.RowKit
set_option linter.unusedVariables false

theorem isSc_iff (r : Int) : isSc r = true ↔ 0 ≤ r ∧ r ≤ 1114111 ∧ (r < 55296 ∨ 57343 < r) := by simp [isSc]
/-- What stands for a number: itself, or the broken one. -/
def fix (r : Int) : Int := if isSc r = true then r else 65533
theorem fix_sc (r : Int) : isSc (fix r) = true := by unfold fix; split; assumption; decide
theorem fix_of (r : Int) (h : isSc r = true) : fix r = r := by unfold fix; rw [if_pos h]

/-- A scalar's bytes. -/
def encS (r : Int) : List Int :=
  if r < 128 then [r] else if r < 2048 then [192 + r / 64, 128 + r % 64]
  else if r < 65536 then [224 + r / 4096, 128 + r / 64 % 64, 128 + r % 64]
  else [240 + r / 262144, 128 + r / 4096 % 64, 128 + r / 64 % 64, 128 + r % 64]
theorem encS1 {r : Int} (h : r < 128) : encS r = [r] := by unfold encS; rw [if_pos h]
theorem encS2 {r : Int} (h : ¬ r < 128) (h2 : r < 2048) : encS r = [192 + r / 64, 128 + r % 64] := by unfold encS; rw [if_neg h, if_pos h2]
theorem encS3 {r : Int} (h : ¬ r < 2048) (h2 : r < 65536) : encS r = [224 + r / 4096, 128 + r / 64 % 64, 128 + r % 64] := by unfold encS; rw [if_neg (by omega), if_neg h, if_pos h2]
theorem encS4 {r : Int} (h : ¬ r < 65536) : encS r = [240 + r / 262144, 128 + r / 4096 % 64, 128 + r / 64 % 64, 128 + r % 64] := by unfold encS; rw [if_neg (by omega), if_neg (by omega), if_neg h]
def encA : List Int → List Int
  | [] => []
  | r :: l => encS (fix r) ++ encA l
theorem encA_append (a b : List Int) : encA (a ++ b) = encA a ++ encA b := by induction a with
  | nil => rfl
  | cons r l ih => simp [encA, ih]
theorem encA_one (r : Int) : encA [r] = encS (fix r) := by simp [encA]
theorem encS_len (r : Int) : 1 ≤ (encS r).length ∧ (encS r).length ≤ 4 := by
  unfold encS; split; simp; split; simp; split <;> simp
theorem encA_len (l : List Int) : (encA l).length ≤ 4 * l.length := by induction l with
  | nil => simp [encA]
  | cons r l ih => have := encS_len (fix r); simp [encA]; omega
theorem encS_byte (r : Int) (h : isSc r = true) : Byte (encS r) := by
  obtain ⟨h0, h1, _⟩ := (isSc_iff r).1 h
  unfold encS
  intro x hx
  split at hx
  · simp at hx; omega
  · split at hx
    · simp at hx; omega
    · split at hx
      · simp at hx; omega
      · simp at hx; omega
theorem encA_byte (l : List Int) : Byte (encA l) := by
  induction l with
  | nil => intro x hx; cases hx
  | cons r l ih => exact (encS_byte _ (fix_sc r)).append ih
theorem info5 : (Tryd.prog.info? 5).map (fun i => (i.zero, i.size, i.bytes)) = some (some (.int .u8 0), 1, 1) := by kernel_rfl
theorem elemB : Elem Tryd.prog 78 5 .u8 1 := ⟨Tryd.underlying78, info5⟩
set_option maxHeartbeats 1000000 in
theorem rbytes_sc (r : Int) (w : World) (h : isSc r = true) : Calls Tryd.prog 63 #[.int .i64 r] w (Made 5 .u8 w (encS r)) := by
  have hb := (isSc_iff r).1 h
  obtain ⟨h0, h9, _⟩ := hb
  have hsc : isSc r = true := h
  by_cases h1 : r < 128
  · have E := hide (encS1 h1)
    go_enter Tryd.func63, Tryd.ntmps63
    go_wp2_with (go_at_call 67; refine (rscalar_any _ _).mono ?_; rintro e w' ⟨rfl, rfl⟩)
    go_ret
    exact ⟨_, rfl, by rw [E.out]; exact Own.lit w 5 .u8 [r] 1 rfl (by omega)⟩
  by_cases h2 : r < 2048
  · have E := hide (encS2 h1 h2)
    go_enter Tryd.func63, Tryd.ntmps63
    go_wp2_with (go_at_call 67; refine (rscalar_any _ _).mono ?_; rintro e w' ⟨rfl, rfl⟩)
    go_ret
    exact ⟨_, rfl, by rw [E.out]; exact Own.lit w 5 .u8 [_, _] 2 rfl (by omega)⟩
  by_cases h3 : r < 65536
  · have E := hide (encS3 h2 h3)
    go_enter Tryd.func63, Tryd.ntmps63
    go_wp2_with (go_at_call 67; refine (rscalar_any _ _).mono ?_; rintro e w' ⟨rfl, rfl⟩)
    go_ret
    exact ⟨_, rfl, by rw [E.out]; exact Own.lit w 5 .u8 [_, _, _] 3 rfl (by omega)⟩
  · have E := hide (encS4 h3)
    go_enter Tryd.func63, Tryd.ntmps63
    go_wp2_with (go_at_call 67; refine (rscalar_any _ _).mono ?_; rintro e w' ⟨rfl, rfl⟩)
    go_ret
    exact ⟨_, rfl, by rw [E.out]; exact Own.lit w 5 .u8 [_, _, _, _] 4 rfl (by omega)⟩

set_option maxHeartbeats 1000000 in
theorem rbytes_any (r : Int) (w : World) : Calls Tryd.prog 63 #[.int .i64 r] w (Made 5 .u8 w (encS (fix r))) := by
  by_cases h : isSc r = true
  · rw [fix_of r h]; exact rbytes_sc r w h
  · have h' : isSc r = false := by simpa using h
    have e : encS (fix r) = [239, 191, 189] := by unfold fix; rw [if_neg h]; decide
    have E := hide e
    clear e h
    go_enter Tryd.func63, Tryd.ntmps63
    go_wp2_with (go_at_call 67; refine (rscalar_any _ _).mono ?_; rintro e w' ⟨rfl, rfl⟩)
    go_ret
    exact ⟨_, rfl, by rw [E.out]; exact Own.lit w 5 .u8 [_, _, _] 3 rfl (by omega)⟩
set_option maxHeartbeats 400000 in
theorem utail_any (r : Int) (w : World) (h0 : 0 ≤ r) (h1 : r ≤ 1114111) : Calls Tryd.prog 68 #[.int .i32 r] w fun e w' => e = .returned (.int .u8 (128 + r % 64)) ∧ w = w' := by
  go_enter Tryd.func68, Tryd.ntmps68
  go_wp2
  go_ret
  exact ⟨rfl, rfl⟩

set_option maxHeartbeats 1000000 in
theorem uput_any (r : Int) (h : isSc r = true) (B : Nat) (w wr : World) (v : Value) (bs : List Int) (hown : Own 5 .u8 B w wr v bs) (hl : bs.length ≤ 1000) :
    Calls Tryd.prog 62 #[v, .int .i32 r] wr fun e w' => ∃ v', e = .returned v' ∧ Own 5 .u8 B w w' v' (bs ++ encS r) := by
  obtain ⟨h0, h9, _⟩ := (isSc_iff r).1 h
  clear h
  by_cases h1 : r < 128
  · have E := hide (encS1 h1)
    have h1' : r ≤ 127 := by omega
    go_enter Tryd.func62, Tryd.ntmps62
    go_wp2_with (at_builtin; refine wpList_push elemB rfl _ _ rfl rfl rfl hown (by omega) (by omega) ?_; intro v' w2 hown2)
    go_ret
    exact ⟨_, rfl, by rw [E.out]; exact hown2⟩
  by_cases h2 : r < 2048
  · have E := hide (encS2 h1 h2)
    have g1 : 127 < r := by omega
    have g2 : r ≤ 2047 := by omega
    go_enter Tryd.func62, Tryd.ntmps62
    go_wp2_with (first | (go_at_call 68; refine (utail_any _ _ (by omega) (by omega)).mono ?_; rintro e w' ⟨rfl, rfl⟩) | (at_builtin; refine wpList_cat elemB rfl _ _ rfl rfl rfl (hown.alloc _) (Ints.new .u8 wr 5 [_, _]) rfl (fun h => by cases h) (by simp; omega) (by omega) ?_; intro v' w2 hown2))
    go_ret
    exact ⟨_, rfl, by rw [E.out]; exact hown2⟩
  by_cases h3 : r < 65536
  · have E := hide (encS3 h2 h3)
    have g1 : 127 < r := by omega
    have g2 : 2047 < r := by omega
    have g3 : r ≤ 65535 := by omega
    go_enter Tryd.func62, Tryd.ntmps62
    go_wp2_with (first | (go_at_call 68; refine (utail_any _ _ (by omega) (by omega)).mono ?_; rintro e w' ⟨rfl, rfl⟩) | (at_builtin; refine wpList_cat elemB rfl _ _ rfl rfl rfl (hown.alloc _) (Ints.new .u8 wr 5 [_, _, _]) rfl (fun h => by cases h) (by simp; omega) (by omega) ?_; intro v' w2 hown2))
    go_ret
    exact ⟨_, rfl, by rw [E.out]; exact hown2⟩
  · have E := hide (encS4 h3)
    have g1 : 127 < r := by omega
    have g2 : 2047 < r := by omega
    have g3 : 65535 < r := by omega
    go_enter Tryd.func62, Tryd.ntmps62
    go_wp2_with (first | (go_at_call 68; refine (utail_any _ _ (by omega) (by omega)).mono ?_; rintro e w' ⟨rfl, rfl⟩) | (at_builtin; refine wpList_cat elemB rfl _ _ rfl rfl rfl (hown.alloc _) (Ints.new .u8 wr 5 [_, _, _, _]) rfl (fun h => by cases h) (by simp; omega) (by omega) ?_; intro v' w2 hown2))
    go_ret
    exact ⟨_, rfl, by rw [E.out]; exact hown2⟩

set_option maxHeartbeats 1000000 in
theorem ubytes_any (a : Option Addr) (len cap : Nat) (zs : List Int) (w : World) (h : Ints .i32 w a zs) (hl : zs.length = len) (hlen : len ≤ 200) :
    Calls Tryd.prog 51 #[.slice a len cap] w (Made 5 .u8 w (encA zs)) := by
  have HL := hide hl
  clear hl
  go_enter Tryd.func51, Tryd.ntmps51
  go_wp2
  go_loopw [3, 5, 8] (fun v _ i wr => ∃ k : Nat, k ≤ len ∧ i = .int .i64 k ∧ Own 5 .u8 w.heap.size w wr v (encA (zs.take k)))
    (fun _ _ i _ => len - (intOf i).toNat)
  case atStart => exact ⟨0, Nat.zero_le _, rfl, Own.start (Nat.le_refl _)⟩
  case round =>
    obtain ⟨k, hk, rfl, hown⟩ := hrel
    by_cases hlt : k < len
    · obtain ⟨b, off, rfl, hc, hb⟩ := h.at (i := k) (by rw [HL.out]; exact hlt)
      obtain ⟨r, hr⟩ : ∃ r, zs.getD k 0 = r := ⟨_, rfl⟩
      have hcx : wr.cell? ⟨b, off + k, none⟩ = some (.int .i32 r) := by rw [← hr]; exact (hown.bel.cell (by exact hb)).trans hc
      have hl1 := encA_len (zs.take k)
      have hl3 : (zs.take k).length ≤ k := List.length_take_le _ _
      have HT : Hid (encA (zs.take (k + 1)) = encA (zs.take k) ++ encS (fix r)) := by
        unfold Hid
        rw [List.take_succ_eq_append_getElem (by rw [HL.out]; exact hlt), encA_append, encA_one]
        rw [List.getD_eq_getElem?_getD, List.getElem?_eq_getElem (by rw [HL.out]; exact hlt)] at hr
        simp at hr
        rw [hr]
      clear hr hc
      by_cases hs : isSc r = true
      · have HF := hide (fix_of r hs)
        go_wp2_with fail
        refine (scalar_any r wr).mono ?_
        rintro e w1 ⟨rfl, rfl⟩
        rw [hs]
        have HS := hide hs
        clear hs
        go_wp2_with fail
        refine (uput_any r HS.out w.heap.size w wr _ _ hown (by omega)).mono ?_
        rintro e w1 ⟨v', rfl, hown1⟩
        go_wp2
        go_roundw
        case rel => exact ⟨k + 1, by omega, by go_num, by rw [HT.out, HF.out]; exact hown1⟩
        case measure => simp [intOf]; omega
      · have HF : Hid (fix r = 65533) := by unfold Hid fix; rw [if_neg hs]
        have hs' : isSc r = false := by simpa using hs
        clear hs
        go_wp2_with fail
        refine (scalar_any r wr).mono ?_
        rintro e w1 ⟨rfl, rfl⟩
        rw [hs']
        clear hs'
        go_wp2_with fail
        refine (uput_any 65533 (by decide) w.heap.size w wr _ _ hown (by omega)).mono ?_
        rintro e w1 ⟨v', rfl, hown1⟩
        go_wp2
        go_roundw
        case rel => exact ⟨k + 1, by omega, by go_num, by rw [HT.out, HF.out]; exact hown1⟩
        case measure => simp [intOf]; omega
    · go_wp2
      go_ret
      exact ⟨_, rfl, by rw [List.take_of_length_le (by rw [HL.out]; omega)] at hown; exact hown⟩
set_option maxHeartbeats 1000000 in
theorem rall_any (a : Option Addr) (len cap : Nat) (zs : List Int) (w : World) (h : Ints .i64 w a zs) (hl : zs.length = len) (hlen : len ≤ 1000) :
    Calls Tryd.prog 53 #[.slice a len cap] w (Made 5 .u8 w (encA zs)) := by
  have HL := hide hl
  clear hl
  go_enter Tryd.func53, Tryd.ntmps53
  go_wp2
  go_loopw [3, 4] (fun v i wr => ∃ k : Nat, k ≤ len ∧ i = .int .i64 k ∧ Own 5 .u8 w.heap.size w wr v (encA (zs.take k)))
    (fun _ i _ => len - (intOf i).toNat)
  case atStart => exact ⟨0, Nat.zero_le _, rfl, Own.start (Nat.le_refl _)⟩
  case round =>
    obtain ⟨k, hk, rfl, hown⟩ := hrel
    by_cases hlt : k < len
    · obtain ⟨b, off, rfl, hc, hb⟩ := h.at (i := k) (by rw [HL.out]; exact hlt)
      obtain ⟨r, hr⟩ : ∃ r, zs.getD k 0 = r := ⟨_, rfl⟩
      have hcx : wr.cell? ⟨b, off + k, none⟩ = some (.int .i64 r) := by rw [← hr]; exact (hown.bel.cell (by exact hb)).trans hc
      have hl1 := encA_len (zs.take k)
      have hl2 := encS_len (fix r)
      have hl3 : (zs.take k).length ≤ k := List.length_take_le _ _
      have HT : Hid (encA (zs.take (k + 1)) = encA (zs.take k) ++ encS (fix r)) := by
        unfold Hid
        rw [List.take_succ_eq_append_getElem (by rw [HL.out]; exact hlt), encA_append, encA_one]
        rw [List.getD_eq_getElem?_getD, List.getElem?_eq_getElem (by rw [HL.out]; exact hlt)] at hr
        simp at hr
        rw [hr]
      clear hr hc
      go_wp2_with fail
      refine (rbytes_any r wr).mono ?_
      rintro e w1 ⟨v, rfl, hv⟩
      obtain ⟨A, c, rfl, hi, hc, hc0⟩ := hv.form
      have hown1 := hown.later hv.bel
      go_wp2_with (at_builtin; refine wpList_cat elemB rfl _ _ rfl rfl rfl hown1 hi rfl hc0 (by omega) (by omega) ?_; intro v' w2 hown2)
      go_roundw
      case rel => exact ⟨k + 1, by omega, by go_num, by rw [HT.out]; exact hown2⟩
      case measure => simp [intOf]; omega
    · go_wp2
      go_ret
      exact ⟨_, rfl, by rw [List.take_of_length_le (by rw [HL.out]; omega)] at hown; exact hown⟩

end Go.Proofs.YtdeoeihbmdgipaaDoor
