/-
  Contracts: a line's text (both).
-/
import Derived.Test.YtdeoeihbmdgipaaDoorLRight2
import Derived.Test.YtdeoeihbmdgipaaDoorUEnc
import Derived.Test.YtdeoeihbmdgipaaDoorCRRunes
namespace Go.Proofs.YtdeoeihbmdgipaaDoor
open Go.ChangeShapes Go.WideShapes Go.ChangeAt Go.RowKit
set_option linter.unusedVariables false

def textTo (cs : List Cel) (k : Nat) : List Int := (cs.take k).flatMap (fun c => encA (runesC c))
def textC (cs : List Cel) : List Int := cs.flatMap (fun c => encA (runesC c))
theorem text_0 (cs : List Cel) : textTo cs 0 = [] := rfl
theorem text_all (cs : List Cel) (k : Nat) (h : cs.length ≤ k) : textTo cs k = textC cs := by unfold textTo textC; rw [List.take_of_length_le h]
theorem text_next (cs : List Cel) (k : Nat) (h : k < cs.length) : textTo cs (k + 1) = textTo cs k ++ encA (runesC (cAt cs k)) := by
  unfold textTo; rw [take_cAt cs k h]; simp
theorem text_len (cs : List Cel) (k : Nat) : (textTo cs k).length ≤ 12 * k := by
  unfold textTo
  have h : ∀ l : List Cel, (l.flatMap (fun c => encA (runesC c))).length ≤ 12 * l.length := by
    intro l
    induction l with
    | nil => simp
    | cons c l ih =>
      have h1 := encA_len (runesC c)
      have h2 := runes_len c
      simp only [List.flatMap_cons, List.length_append, List.length_cons]
      omega
  have := h (cs.take k)
  rw [List.length_take] at this
  omega
theorem text_byte (cs : List Cel) : Byte (textC cs) := by
  intro x hx
  obtain ⟨c, _, hc⟩ := List.mem_flatMap.1 hx
  exact encA_byte _ x hc
/-- The call answered with this string, and left all that was there. -/
def Str (s : ByteArray) (w : World) (e : Ending) (w' : World) : Prop := e = .returned (.string s) ∧ Below w.heap.size w w'
set_option maxRecDepth 100000 in
set_option maxHeartbeats 2000000 in
theorem text_any (A : Option Addr) (n c : Nat) (cs : List Cel) (w : World) (h : Cels .i32 w A cs) (hn : cs.length = n) (hl : n ≤ 1000) : Calls Tryd.prog 30 #[.slice A n c] w (Str (strOf (textC cs)) w) := by
  have HC := hide h
  have HN := hide hn
  clear h hn
  go_enter Tryd.func30, Tryd.ntmps30
  go_wp2
  go_loopw [3, 5, 8] (fun v _ i wr => ∃ k : Nat, k ≤ n ∧ i = .int .i64 k ∧ Own 5 .u8 w.heap.size w wr v (textTo cs k)) (fun _ _ i _ => n - (intOf i).toNat)
  case atStart => exact ⟨0, Nat.zero_le _, rfl, Own.start (Nat.le_refl _)⟩
  case round =>
    obtain ⟨k, hk, rfl, hown⟩ := hrel
    have HV := hide hown
    clear hown
    by_cases hlt : k < n
    · obtain ⟨b1, o1, rfl, l1, -⟩ := HC.out.at (i := k) (by rw [HN.out]; exact hlt)
      have HT := hide (text_next cs k (by rw [HN.out]; exact hlt))
      have HTL := hide (text_len cs k)
      obtain ⟨⟨r, x, y, z, ⟨f, g, b⟩⟩, hc⟩ : ∃ q, cAt cs k = q := ⟨_, rfl⟩
      obtain ⟨a0, a1, a2, a3, a4, a5, a6, -⟩ := (HC.out.below HV.out.bel).sevenC k (by rw [HN.out]; exact hlt) hc
      rw [hc] at HT
      clear hc
      obtain ⟨Z, hZ⟩ : ∃ Z, runesC ⟨r, x, y, z, ⟨f, g, b⟩⟩ = Z := ⟨_, rfl⟩
      have hzl : Z.length ≤ 3 := by rw [← hZ]; exact runes_len _
      rw [hZ] at HT
      have HZ := hide hZ
      clear hZ
      obtain ⟨W1, hW1⟩ : ∃ W1, wr.alloc (.cells #[.int .i32 r, .int .i32 x, .int .i32 y, .int .u8 (z : Int), .int .u8 (f : Int), .int .u8 (g : Int), .int .u8 (b : Int)] 27) = W1 := ⟨_, rfl⟩
      have HV1 : Hid (Own 5 .u8 w.heap.size w W1 u3 (textTo cs k)) := by unfold Hid; rw [← hW1]; exact HV.out.alloc _
      have HW1 := hide hW1
      clear hW1
      go_wp2_with fail
      rw [HW1.out]
      refine (runes_any r x y z f g b W1).mono ?_
      rintro e w2 ⟨v2, rfl, ho2⟩
      rw [HZ.out] at ho2
      obtain ⟨A2, c2, rfl, hi2, -⟩ := ho2.form2
      have HI2 := hide hi2
      have HV2 := hide (HV1.out.later ho2.bel)
      clear ho2 hi2 a0 a1 a2 a3 a4 a5 a6
      go_wp2_with fail
      refine (ubytes_any A2 Z.length c2 Z w2 HI2.out rfl (by omega)).mono ?_
      rintro e w3 ⟨v3, rfl, ho3⟩
      have hel := encA_len Z
      obtain ⟨Y, hY⟩ : ∃ Y, encA Z = Y := ⟨_, rfl⟩
      rw [hY] at ho3 HT hel
      obtain ⟨A3, c3, rfl, hi3, -, hz3, -⟩ := ho3.form2
      have HI3 := hide hi3
      have HZ3 := hide hz3
      have HV3 := hide (HV2.out.later ho3.bel)
      clear ho3 hi3 hz3 hY
      go_wp2_with (at_builtin; refine stopw ?_)
      unfold Hid
      refine wpList_cat elemB rfl _ _ rfl rfl rfl HV3.out HI3.out rfl HZ3.out (by have := HTL.out; omega) (by omega) ?_
      intro v' wn hn1
      rw [← HT.out] at hn1
      have HV' := hide hn1
      clear hn1
      go_wp2
      go_roundw
      case rel => exact ⟨k + 1, by omega, by go_num, HV'.out⟩
      case measure => simp [intOf]; omega
    · obtain ⟨A3, c3, hv, hi3, -⟩ := HV.out.form2
      rw [text_all cs k (by rw [HN.out]; omega)] at hi3 hv
      subst hv
      have hrun := run_strOf (P := Tryd.prog) wr 78 9 5 Tryd.underlying78 Tryd.underlying5 Tryd.underlying9 A3 c3 (textC cs) hi3 (text_byte cs)
      obtain ⟨S, hS⟩ : ∃ S, strOf (textC cs) = S := ⟨_, rfl⟩
      rw [hS] at hrun
      have HS := hide hS
      have HBL := hide HV.out.bel
      clear hS hi3 HV
      generalize (textC cs).length = N at hrun
      go_wp2
      go_ret
      exact ⟨by rw [HS.out]; rfl, HBL.out⟩
set_option maxRecDepth 100000 in
set_option maxHeartbeats 2000000 in
theorem rtext_any (A : Option Addr) (n c : Nat) (cs : List Cel) (w : World) (h : Cels .i64 w A cs) (hn : cs.length = n) (hl : n ≤ 1000) : Calls Tryd.prog 31 #[.slice A n c] w (Str (strOf (textC cs)) w) := by
  have HC := hide h
  have HN := hide hn
  clear h hn
  go_enter Tryd.func31, Tryd.ntmps31
  go_wp2
  go_loopw [3, 4] (fun v i wr => ∃ k : Nat, k ≤ n ∧ i = .int .i64 k ∧ Own 5 .u8 w.heap.size w wr v (textTo cs k)) (fun _ i _ => n - (intOf i).toNat)
  case atStart => exact ⟨0, Nat.zero_le _, rfl, Own.start (Nat.le_refl _)⟩
  case round =>
    obtain ⟨k, hk, rfl, hown⟩ := hrel
    have HV := hide hown
    clear hown
    by_cases hlt : k < n
    · obtain ⟨b1, o1, rfl, l1, -⟩ := HC.out.at (i := k) (by rw [HN.out]; exact hlt)
      have HT := hide (text_next cs k (by rw [HN.out]; exact hlt))
      have HTL := hide (text_len cs k)
      obtain ⟨⟨r, x, y, z, ⟨f, g, b⟩⟩, hc⟩ : ∃ q, cAt cs k = q := ⟨_, rfl⟩
      obtain ⟨a0, a1, a2, a3, a4, a5, a6, -⟩ := (HC.out.below HV.out.bel).sevenC k (by rw [HN.out]; exact hlt) hc
      rw [hc] at HT
      clear hc
      obtain ⟨Z, hZ⟩ : ∃ Z, runesC ⟨r, x, y, z, ⟨f, g, b⟩⟩ = Z := ⟨_, rfl⟩
      have hzl : Z.length ≤ 3 := by rw [← hZ]; exact runes_len _
      rw [hZ] at HT
      have HZ := hide hZ
      clear hZ
      go_wp2_with fail
      refine (rrunes_any r x y z f g b wr).mono ?_
      rintro e w2 ⟨v2, rfl, ho2⟩
      rw [HZ.out] at ho2
      obtain ⟨A2, c2, rfl, hi2, -⟩ := ho2.form2
      have HI2 := hide hi2
      have HV2 := hide (HV.out.later ho2.bel)
      clear ho2 hi2 a0 a1 a2 a3 a4 a5 a6
      go_wp2_with fail
      refine (rall_any A2 Z.length c2 Z w2 HI2.out rfl (by omega)).mono ?_
      rintro e w3 ⟨v3, rfl, ho3⟩
      have hel := encA_len Z
      obtain ⟨Y, hY⟩ : ∃ Y, encA Z = Y := ⟨_, rfl⟩
      rw [hY] at ho3 HT hel
      obtain ⟨A3, c3, rfl, hi3, -, hz3, -⟩ := ho3.form2
      have HI3 := hide hi3
      have HZ3 := hide hz3
      have HV3 := hide (HV2.out.later ho3.bel)
      clear ho3 hi3 hz3 hY
      go_wp2_with (at_builtin; refine stopw ?_)
      unfold Hid
      refine wpList_cat elemB rfl _ _ rfl rfl rfl HV3.out HI3.out rfl HZ3.out (by have := HTL.out; omega) (by omega) ?_
      intro v' wn hn1
      rw [← HT.out] at hn1
      have HV' := hide hn1
      clear hn1
      go_wp2
      go_roundw
      case rel => exact ⟨k + 1, by omega, by go_num, HV'.out⟩
      case measure => simp [intOf]; omega
    · obtain ⟨A3, c3, hv, hi3, -⟩ := HV.out.form2
      rw [text_all cs k (by rw [HN.out]; omega)] at hi3 hv
      subst hv
      have hrun := run_strOf (P := Tryd.prog) wr 78 9 5 Tryd.underlying78 Tryd.underlying5 Tryd.underlying9 A3 c3 (textC cs) hi3 (text_byte cs)
      obtain ⟨S, hS⟩ : ∃ S, strOf (textC cs) = S := ⟨_, rfl⟩
      rw [hS] at hrun
      have HS := hide hS
      have HBL := hide HV.out.bel
      clear hS hi3 HV
      generalize (textC cs).length = N at hrun
      go_wp2
      go_ret
      exact ⟨by rw [HS.out]; rfl, HBL.out⟩
end Go.Proofs.YtdeoeihbmdgipaaDoor
