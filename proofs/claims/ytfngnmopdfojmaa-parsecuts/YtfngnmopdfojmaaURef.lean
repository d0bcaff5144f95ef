/-
  Contracts of the document's own answers: the order of bytes, the search, beginnings.
-/
import Derived.Test.YtfngnmopdfojmaaUBase
namespace Go.Proofs.Ytfngnmopdfojmaa
set_option maxRecDepth 100000
open Go.ChangeShapes Go.WideShapes Go.ChangeAt Go.RowKit
set_option linter.unusedVariables false

set_option maxHeartbeats 1000000 in
theorem ahead_any (A C : Option Addr) (n m c d : Nat) (x p : List Int) (w : World) (hx : Ints .u8 w A x) (hp : Ints .u8 w C p) (hn : x.length = n) (hm : p.length = m) (hl : n ≤ 1000000) (hl2 : m ≤ 1000000) (bx : Byte x) (bp : Byte p) :
    Calls Try.prog 58 #[.slice A n c, .slice C m d] w (Said (lexB x p) w) := by
  have HN := hide hn
  have HM := hide hm
  clear hn hm
  go_enter Try.func58, Try.ntmps58
  go_wp2
  go_loopw [5] (fun i wr => ∃ k : Nat, k ≤ n ∧ k ≤ m ∧ i = .int .i64 k ∧ lexB (x.drop k) (p.drop k) = lexB x p ∧ Below w.heap.size w wr) (fun i _ => n - (intOf i).toNat)
  case atStart => exact ⟨0, Nat.zero_le _, Nat.zero_le _, rfl, by simp, Below.refl _ _⟩
  case round =>
    obtain ⟨k, hk, hk2, rfl, hlex, hbel⟩ := hrel
    have HL := hide hlex
    clear hlex
    by_cases h1 : k < n
    · by_cases h2 : k < m
      · obtain ⟨b, off, rfl, hc, hb⟩ := hx.at (i := k) (by rw [HN.out]; exact h1)
        obtain ⟨b2, off2, rfl, hc2, hb2⟩ := hp.at (i := k) (by rw [HM.out]; exact h2)
        obtain ⟨u, hu, hu2⟩ := getD_byte x bx k (by rw [HN.out]; exact h1)
        obtain ⟨v, hv, hv2⟩ := getD_byte p bp k (by rw [HM.out]; exact h2)
        have HD := hide (drop_at x k u (by rw [HN.out]; exact h1) hu)
        have HD2 := hide (drop_at p k v (by rw [HM.out]; exact h2) hv)
        rw [hu, ← hbel.cell (p := ⟨b, off + k, none⟩) hb] at hc
        rw [hv, ← hbel.cell (p := ⟨b2, off2 + k, none⟩) hb2] at hc2
        clear hu hv
        by_cases e : u = v
        · subst e
          have hq : ((u : Int) != (u : Int)) = false := by simp
          go_wp2
          go_quiet (fail)
          go_wp2
          go_roundw
          case rel => exact ⟨k + 1, by omega, by omega, by go_num, by rw [← HL.out, HD.out, HD2.out, lexB_eq], hbel.drewN _⟩
          case measure => simp [intOf]; omega
        · have hq : ((u : Int) != (v : Int)) = true := by simp; omega
          have HE : Hid (lexB x p = decide ((u : Int) < (v : Int))) := by unfold Hid; rw [← HL.out, HD.out, HD2.out, lexB_ne (by omega)]
          go_wp2
          go_quiet (fail)
          go_wp2
          go_quiet (fail)
          go_wp2
          go_ret
          exact ⟨ret_bool (by rw [HE.out]; first | rfl | simp), (hbel.drewN _).drewN _⟩
      · have HE : Hid (lexB x p = false) := by
          unfold Hid
          rw [← HL.out, (List.drop_eq_nil_of_le (by rw [HM.out]; omega) : p.drop k = [])]
          cases x.drop k <;> rfl
        have hq : decide (n < m) = false := by simp; omega
        go_wp2
        go_ret
        exact ⟨ret_bool (by rw [HE.out]), hbel⟩
    · have HE : Hid (lexB x p = decide (n < m)) := by
        unfold Hid
        rw [← HL.out, (List.drop_eq_nil_of_le (by rw [HN.out]; omega) : x.drop k = [])]
        rcases Nat.lt_or_ge n m with h | h
        · rw [List.drop_eq_getElem_cons (by rw [HM.out]; omega)]
          simp [lexB, h]
        · rw [List.drop_eq_nil_of_le (by rw [HM.out]; omega)]
          simp [lexB]; omega
      go_wp2
      go_ret
      exact ⟨ret_bool (by rw [HE.out]), hbel⟩

/-- The call answered whether some scalar from lo to hi begins so, and left all that was there. -/
def Finds (p : List Int) (lo hi : Int) (w : World) (e : Ending) (w' : World) : Prop := ∃ b : Bool, e = .returned (.bool b) ∧ (b = true ↔ ∃ m, lo ≤ m ∧ m ≤ hi ∧ p <+: encS m) ∧ Below w.heap.size w w'
def Up (p : List Int) (lo L : Int) : Prop := ∀ x, lo ≤ x → x < L → lexB (encS x) p = true
def Stop (p : List Int) (hi H : Int) : Prop := H = hi ∨ lexB (encS H) p = false
theorem sc_mid (lo hi m : Int) (h0 : 0 ≤ lo) (hm : lo ≤ m ∧ m ≤ hi) (hh : hi ≤ 1114111) (hs : hi < 55296 ∨ 57343 < lo) : isSc m = true := by rw [isSc_iff]; omega

set_option maxHeartbeats 1000000 in
theorem within_any (A : Option Addr) (n c : Nat) (p : List Int) (lo hi : Int) (w : World) (hp : Ints .u8 w A p) (hn : p.length = n) (hl : n ≤ 1000000) (bp : Byte p) (h0 : 0 ≤ lo) (hlh : lo ≤ hi) (hh : hi ≤ 1114111) (hs : hi < 55296 ∨ 57343 < lo) :
    Calls Try.prog 52 #[.slice A n c, .int .i64 lo, .int .i64 hi] w (Finds p lo hi w) := by
  have HN := hide hn
  have HS := hide hs
  clear hn hs
  go_enter Try.func52, Try.ntmps52
  go_wp2
  go_loopw [1, 2, 7] (fun l h _ wr => ∃ L H : Int, l = .int .i64 L ∧ h = .int .i64 H ∧ lo ≤ L ∧ L ≤ H ∧ H ≤ hi ∧ Up p lo L ∧ Stop p hi H ∧ Below w.heap.size w wr) (fun l h _ _ => (intOf h - intOf l).toNat)
  case atStart => exact ⟨lo, hi, rfl, rfl, Int.le_refl _, hlh, Int.le_refl _, fun x h1 h2 => by omega, .inl rfl, Below.refl _ _⟩
  case round =>
    obtain ⟨L, H, rfl, rfl, k1, k2, k3, hup, hstop, hbel⟩ := hrel
    by_cases hlt : L < H
    · have hm := sc_mid lo hi ((L + H) / 2) h0 (by omega) hh HS.out
      go_wp2_with fail
      refine (rbytes_sc ((L + H) / 2) _ hm).mono ?_
      rintro e w1 ⟨v, rfl, hv⟩
      obtain ⟨A1, c1, rfl, hi1, hc1, hA1⟩ := hv.form
      have hl4 := encS_len ((L + H) / 2)
      have hb1 := hbel.trans (hv.bel.mono hbel.size)
      by_cases hx : lexB (encS ((L + H) / 2)) p = true
      · go_wp2_with fail
        refine (ahead_any A1 A _ n c1 c _ p w1 hi1 (hp.below hb1) rfl HN.out (by omega) hl (encS_byte _ hm) bp).mono ?_
        rintro e w2 ⟨rfl, hb2⟩
        rw [hx]
        have hx2 := hide hx
        clear hx
        go_wp2
        go_roundw
        case rel => exact ⟨(L + H) / 2 + 1, H, rfl, rfl, by omega, by omega, by omega, search_up p lo L _ h0 (by omega) (by omega) hup hx2.out, hstop, hb1.trans (hb2.mono hb1.size)⟩
        case measure => simp [intOf]; omega
      · have hx' : lexB (encS ((L + H) / 2)) p = false := by simpa using hx
        clear hx
        go_wp2_with fail
        refine (ahead_any A1 A _ n c1 c _ p w1 hi1 (hp.below hb1) rfl HN.out (by omega) hl (encS_byte _ hm) bp).mono ?_
        rintro e w2 ⟨rfl, hb2⟩
        rw [hx']
        have hx2 := hide hx'
        clear hx'
        go_wp2
        go_roundw
        case rel => exact ⟨L, (L + H) / 2, rfl, rfl, by omega, by omega, by omega, hup, .inr hx2.out, hb1.trans (hb2.mono hb1.size)⟩
        case measure => simp [intOf]; omega
    · obtain rfl : L = H := by omega
      have hm := sc_mid lo hi L h0 (by omega) hh HS.out
      have END := hide (search_end p lo hi L h0 hh k1 k3 hup hstop)
      go_wp2_with fail
      refine (rbytes_sc L _ hm).mono ?_
      rintro e w1 ⟨v, rfl, hv⟩
      obtain ⟨A1, c1, rfl, hi1, hc1, hA1⟩ := hv.form
      have hl4 := encS_len L
      have hb1 := hbel.trans (hv.bel.mono hbel.size)
      have hp1 := hp.below hb1
      have bx := encS_byte L hm
      clear hv hup hstop hm HS
      generalize encS L = x at *
      obtain ⟨q, hq⟩ : ∃ q : Nat, x.length = q := ⟨_, rfl⟩
      rw [hq] at hl4 hc1
      have HQ := hide hq
      rw [hq]
      clear hq
      by_cases hsh : q < n
      · go_wp2
        go_ret
        refine ⟨false, rfl, ?_, hb1⟩
        rw [← END.out]
        constructor
        · intro h; cases h
        · intro h; have := h.length_le; rw [HQ.out, HN.out] at this; omega
      · go_wp2
        go_loopw [9] (fun i wr => ∃ k : Nat, k ≤ n ∧ i = .int .i64 k ∧ p.take k = x.take k ∧ Below w1.heap.size w1 wr) (fun i _ => n - (intOf i).toNat)
        case atStart => exact ⟨0, Nat.zero_le _, rfl, by simp, Below.refl _ _⟩
        case round =>
          obtain ⟨k, hk, rfl, htk, hbel2⟩ := hrel
          have HT := hide htk
          clear htk
          by_cases hlt : k < n
          · obtain ⟨b, off, rfl, hc, hb⟩ := hi1.at (i := k) (by rw [HQ.out]; omega)
            obtain ⟨b2, off2, rfl, hc2, hb2⟩ := hp1.at (i := k) (by rw [HN.out]; exact hlt)
            obtain ⟨u, hu, hu2⟩ := getD_byte x bx k (by rw [HQ.out]; omega)
            obtain ⟨v, hv, hv2⟩ := getD_byte p bp k (by rw [HN.out]; exact hlt)
            have HD := hide (drop_at x k u (by rw [HQ.out]; omega) hu)
            have HD2 := hide (drop_at p k v (by rw [HN.out]; exact hlt) hv)
            rw [hu, ← hbel2.cell (p := ⟨b, off + k, none⟩) hb] at hc
            rw [hv, ← hbel2.cell (p := ⟨b2, off2 + k, none⟩) hb2] at hc2
            by_cases e : u = v
            · subst e
              have HT2 := hide (take_next p x k u (by rw [HN.out]; exact hlt) (by rw [HQ.out]; omega) HT.out hv hu)
              clear hu hv
              have hq : ((u : Int) != (u : Int)) = false := by simp
              go_wp2
              go_quiet (fail)
              go_wp2
              go_roundw
              case rel => exact ⟨k + 1, by omega, by go_num, HT2.out, hbel2.drewN _⟩
              case measure => simp [intOf]; omega
            · clear hu hv
              have hq : ((u : Int) != (v : Int)) = true := by simp; omega
              go_wp2
              go_quiet (fail)
              go_wp2
              go_ret
              refine ⟨false, rfl, ?_, (hb1.trans (hbel2.mono hb1.size)).drewN _⟩
              rw [← END.out]
              constructor
              · intro h; cases h
              · intro h
                have := (drop_prefix p x k (by rw [HN.out]; omega) (by rw [HQ.out]; omega) HT.out).1 h
                rw [HD.out, HD2.out] at this
                obtain ⟨t, ht⟩ := this
                simp at ht; omega
          · go_wp2
            go_ret
            refine ⟨true, rfl, ?_, hb1.trans (hbel2.mono hb1.size)⟩
            rw [← END.out]
            refine ⟨fun _ => ?_, fun _ => rfl⟩
            have := HT.out
            rw [(List.take_of_length_le (by rw [HN.out]; omega) : p.take k = p)] at this
            exact ⟨x.drop k, by rw [this, List.take_append_drop]⟩
end Go.Proofs.Ytfngnmopdfojmaa
