/-
  Contracts and plain mathematics of NOf, BTk.
-/
import Derived.Test.YtcbdokocnjoilaaGreatDoorH6
import Derived.Test.YtcbdokocnjoilaaGreatDoorH1
namespace Go.Proofs.YtcbdokocnjoilaaGreatDoor
set_option maxRecDepth 100000
set_option linter.unusedVariables false
set_option maxHeartbeats 8000000
section
open Go.ChangeShapes Go.WideShapes Go.ChangeAt Go.RowKit
/-- The call answered with this pen and this bool, and left all that was there. -/
def Penned2 (x : Pn × Bool) (w : World) (e : Ending) (w' : World) : Prop := e = .returned (.tuple #[.agg #[.int .u8 (x.1.f : Int), .int .u8 (x.1.g : Int), .int .u8 (x.1.b : Int)], .bool x.2]) ∧ Below w.heap.size w w'
theorem ret32 {R : Ending → World → Prop} {a : Act} {w : World} {fn : Func} {s u : Nat} {q t : Nat} {x y z : Int} {v : Value} (hr : fn.results = #[.cell s t, .tmp u]) (ht : t = 103 ∨ t = 98) (h4 : a.tmps.getD s undef = .pointer (some ⟨q, 0, none⟩)) (h5 : a.tmps.getD u undef = v) (hd : a.defers = [])
    (hw : Whole w q t [.int .u8 x, .int .u8 y, .int .u8 z]) (hR : R (.returned (.tuple #[.agg #[.int .u8 x, .int .u8 y, .int .u8 z], v])) w) : bodyPost Tryz.prog fn R .ret a w := by
  have c0 : w.cell? ⟨q, 0, none⟩ = some (.int .u8 x) := hw.cell 0
  have c1 : w.cell? ⟨q, 1, none⟩ = some (.int .u8 y) := hw.cell 1
  have c2 : w.cell? ⟨q, 2, none⟩ = some (.int .u8 z) := hw.cell 2
  clear hw
  rw [Array.getD_eq_getD_getElem?] at h4 h5
  rcases ht with rfl | rfl
  · exact bodyPost_ret (v := .tuple #[.agg #[.int .u8 x, .int .u8 y, .int .u8 z], v]) (by simp [results, hr, h4, h5, c0, c1, c2, go_sem]) hd hR
  · exact bodyPost_ret (v := .tuple #[.agg #[.int .u8 x, .int .u8 y, .int .u8 z], v]) (by simp [results, hr, h4, h5, c0, c1, c2, go_sem]) hd hR
theorem ofN_of (n : Int) (F G B : Nat) (h0 : 0 ≤ n) (hF : n % 32 = (F : Int)) (hG : n % 1024 / 32 = (G : Int)) (hB : n / 1024 % 256 = (B : Int)) :
    ofN n = if rightN ⟨F, G, B⟩ = true ∧ numN ⟨F, G, B⟩ = n then (⟨F, G, B⟩, true) else (zeroP, false) := by
  unfold ofN
  by_cases hr : rightN ⟨F, G, B⟩ = true
  · obtain ⟨h1, h2, h3⟩ := right_bd F G B hr
    rw [num_right F G B hr]
    by_cases hn : (F : Int) + 32 * (G : Int) + 1024 * (B : Int) = n
    · rw [if_pos (by omega), if_pos ⟨hr, hn⟩]
      congr 2 <;> omega
    · rw [if_neg (by omega), if_neg (fun h => hn h.2)]
  · have hc : ¬ (0 ≤ n ∧ n % 1024 / 32 ≤ 16 ∧ n / 1024 ≤ 16) := by
      intro h
      apply hr
      unfold rightN
      simp only [Bool.and_eq_true, decide_eq_true_eq]
      omega
    rw [if_neg hc, if_neg (fun h => hr h.1)]
theorem ofN_neg (n : Int) (h : n < 0) : ofN n = (zeroP, false) := by unfold ofN; rw [if_neg (by omega)]
theorem num_ne_neg (n : Int) (h : n < 0) (F G B : Nat) (hr : rightN ⟨F, G, B⟩ = true) : numN ⟨F, G, B⟩ ≠ n := by rw [num_right F G B hr]; omega

theorem rnumber_any (f g b : Nat) (w : World) : Calls Tryz.prog 71 #[.agg #[.int .u8 (f : Int), .int .u8 (g : Int), .int .u8 (b : Int)]] w (Num .i64 (numN ⟨f, g, b⟩) w) := by
  cases hr : rightN ⟨f, g, b⟩
  · have HR := hide hr
    have HN := hide (num_not f g b hr)
    clear hr
    go_enter Tryz.func71, Tryz.ntmps71
    go_wp2_with fail
    refine (pn_rright_any f g b _).mono ?_
    rintro e w1 ⟨rfl, hb1⟩
    rw [HR.out]
    go_wp2
    go_ret
    exact ⟨ret_int HN.out.symm, ((Below.refl _ _).alloc (Nat.le_refl _) _).trans (hb1.mono (by simp))⟩
  · have HR := hide hr
    have HN := hide (num_right f g b hr)
    obtain ⟨h1, h2, h3⟩ := right_bd f g b hr
    clear hr
    go_enter Tryz.func71, Tryz.ntmps71
    go_wp2_with fail
    refine (pn_rright_any f g b _).mono ?_
    rintro e w1 ⟨rfl, hb1⟩
    rw [HR.out]
    obtain ⟨hc, hz⟩ := pn_bcell hb1
    go_wp2
    go_ret
    exact ⟨ret_int (HN.out.symm), ((Below.refl _ _).alloc (Nat.le_refl _) _).trans (hb1.mono (by simp))⟩
theorem of_pos (n : Int) (h : 0 ≤ n) (hx : n < 9223372036854775808) (w : World) : Calls Tryz.prog 107 #[.int .i64 n] w (Penned2 (ofN n) w) := by
  obtain ⟨F, hF⟩ : ∃ F : Nat, n % 32 = (F : Int) := ⟨(n % 32).toNat, by omega⟩
  obtain ⟨G, hG⟩ : ∃ G : Nat, n % 1024 / 32 = (G : Int) := ⟨(n % 1024 / 32).toNat, by omega⟩
  obtain ⟨B, hB⟩ : ∃ B : Nat, n / 1024 % 256 = (B : Int) := ⟨(n / 1024 % 256).toNat, by omega⟩
  cases hr : rightN ⟨F, G, B⟩
  · have E : Hid (ofN n = (zeroP, false)) := by unfold Hid; rw [ofN_of n F G B h hF hG hB]; rw [if_neg (fun h => by rw [hr] at h; cases h.1)]
    have HR := hide hr
    clear hr
    go_enter Tryz.func107, Tryz.ntmps107
    go_wp2_with fail
    refine (pn_right_any F G B _).mono ?_
    rintro e w1 ⟨rfl, hb1⟩
    rw [HR.out]
    obtain ⟨hc, hz⟩ := pn_bcell hb1
    have hb := (((Below.refl w.heap.size w).alloc (Nat.le_refl _) _).alloc (by simp) _).trans (hb1.mono (by simp; omega))
    have HW := hide ((two_whole w 103 [.int .u8 0, .int .u8 0, .int .u8 0] (.cells #[.int .u8 (F : Int), .int .u8 (G : Int), .int .u8 (B : Int)] 103)).later hb1)
    go_wp2
    exact ret32 Tryz.results107 (.inl rfl) rfl rfl rfl (pn_put3 HW.out) ⟨by rw [E.out]; rfl, pn_below_put3 hb (Nat.le_refl _) _ _ _⟩
  · by_cases hn : numN ⟨F, G, B⟩ = n
    · have E : Hid (ofN n = (⟨F, G, B⟩, true)) := by unfold Hid; rw [ofN_of n F G B h hF hG hB]; rw [if_pos ⟨hr, hn⟩]
      have HN := hide hn
      have hq : (n != n) = false := by simp
      clear hn
      have HR := hide hr
      clear hr
      go_enter Tryz.func107, Tryz.ntmps107
      go_wp2_with fail
      refine (pn_right_any F G B _).mono ?_
      rintro e w1 ⟨rfl, hb1⟩
      rw [HR.out]
      obtain ⟨hc, hz⟩ := pn_bcell hb1
      have hb := (((Below.refl w.heap.size w).alloc (Nat.le_refl _) _).alloc (by simp) _).trans (hb1.mono (by simp; omega))
      have HW := hide ((two_whole w 103 [.int .u8 0, .int .u8 0, .int .u8 0] (.cells #[.int .u8 (F : Int), .int .u8 (G : Int), .int .u8 (B : Int)] 103)).later hb1)
      have HV := hide ((pn_whole_snd w (.cells #[.int .u8 0, .int .u8 0, .int .u8 0] 103) 103 [.int .u8 (F : Int), .int .u8 (G : Int), .int .u8 (B : Int)]).later hb1)
      clear hb1
      go_wp2_with fail
      refine (number_any F G B _).mono ?_
      rintro e w2 ⟨rfl, hb2⟩
      rw [HN.out]
      clear hc hz
      have hbb := hb.trans (hb2.mono hb.size)
      have c0 := (HW.out.later hb2).cell 0
      have c1 := (HW.out.later hb2).cell 1
      have c2 := (HW.out.later hb2).cell 2
      have z0 := (HW.out.later hb2).frozen 0
      have z1 := (HW.out.later hb2).frozen 1
      have z2 := (HW.out.later hb2).frozen 2
      have d0 := (HV.out.later hb2).cell 0
      have d1 := (HV.out.later hb2).cell 1
      have d2 := (HV.out.later hb2).cell 2
      simp only [List.getElem?_cons_zero, List.getElem?_cons_succ] at c0 c1 c2 d0 d1 d2
      go_wp2
      exact ret32 Tryz.results107 (.inl rfl) rfl rfl rfl (pn_put3 (HW.out.later hb2)) ⟨by rw [E.out]; rfl, pn_below_put3 hbb (Nat.le_refl _) _ _ _⟩
    · have E : Hid (ofN n = (zeroP, false)) := by unfold Hid; rw [ofN_of n F G B h hF hG hB]; rw [if_neg (fun h => hn h.2)]
      obtain ⟨N, hN⟩ : ∃ N, numN ⟨F, G, B⟩ = N := ⟨_, rfl⟩
      rw [hN] at hn
      have HN := hide hN
      have hq : (N != n) = true := by simpa using hn
      clear hn hN
      have HR := hide hr
      clear hr
      go_enter Tryz.func107, Tryz.ntmps107
      go_wp2_with fail
      refine (pn_right_any F G B _).mono ?_
      rintro e w1 ⟨rfl, hb1⟩
      rw [HR.out]
      obtain ⟨hc, hz⟩ := pn_bcell hb1
      have hb := (((Below.refl w.heap.size w).alloc (Nat.le_refl _) _).alloc (by simp) _).trans (hb1.mono (by simp; omega))
      have HW := hide ((two_whole w 103 [.int .u8 0, .int .u8 0, .int .u8 0] (.cells #[.int .u8 (F : Int), .int .u8 (G : Int), .int .u8 (B : Int)] 103)).later hb1)
      have HV := hide ((pn_whole_snd w (.cells #[.int .u8 0, .int .u8 0, .int .u8 0] 103) 103 [.int .u8 (F : Int), .int .u8 (G : Int), .int .u8 (B : Int)]).later hb1)
      clear hb1
      go_wp2_with fail
      refine (number_any F G B _).mono ?_
      rintro e w2 ⟨rfl, hb2⟩
      rw [HN.out]
      clear hc hz
      have hbb := hb.trans (hb2.mono hb.size)
      have c0 := (HW.out.later hb2).cell 0
      have c1 := (HW.out.later hb2).cell 1
      have c2 := (HW.out.later hb2).cell 2
      have z0 := (HW.out.later hb2).frozen 0
      have z1 := (HW.out.later hb2).frozen 1
      have z2 := (HW.out.later hb2).frozen 2
      have d0 := (HV.out.later hb2).cell 0
      have d1 := (HV.out.later hb2).cell 1
      have d2 := (HV.out.later hb2).cell 2
      simp only [List.getElem?_cons_zero, List.getElem?_cons_succ] at c0 c1 c2 d0 d1 d2
      go_wp2
      exact ret32 Tryz.results107 (.inl rfl) rfl rfl rfl (pn_put3 (HW.out.later hb2)) ⟨by rw [E.out]; rfl, pn_below_put3 hbb (Nat.le_refl _) _ _ _⟩
theorem of_neg (n : Int) (h : n < 0) (hx : -9223372036854775808 ≤ n) (w : World) : Calls Tryz.prog 107 #[.int .i64 n] w (Penned2 (ofN n) w) := by
  obtain ⟨F, hF⟩ : ∃ F : Nat, n.tmod 32 % 256 = (F : Int) := ⟨(n.tmod 32 % 256).toNat, by omega⟩
  obtain ⟨G, hG⟩ : ∃ G : Nat, wrap64 ((n.tmod 1024).tdiv 32) % 256 = (G : Int) := ⟨(wrap64 ((n.tmod 1024).tdiv 32) % 256).toNat, by omega⟩
  obtain ⟨B, hB⟩ : ∃ B : Nat, n.tdiv 1024 % 256 = (B : Int) := ⟨(n.tdiv 1024 % 256).toNat, by omega⟩
  cases hr : rightN ⟨F, G, B⟩
  · have E : Hid (ofN n = (zeroP, false)) := ofN_neg n h
    have HR := hide hr
    clear hr
    go_enter Tryz.func107, Tryz.ntmps107
    go_wp2_with fail
    refine (pn_right_any F G B _).mono ?_
    rintro e w1 ⟨rfl, hb1⟩
    rw [HR.out]
    obtain ⟨hc, hz⟩ := pn_bcell hb1
    have hb := (((Below.refl w.heap.size w).alloc (Nat.le_refl _) _).alloc (by simp) _).trans (hb1.mono (by simp; omega))
    have HW := hide ((two_whole w 103 [.int .u8 0, .int .u8 0, .int .u8 0] (.cells #[.int .u8 (F : Int), .int .u8 (G : Int), .int .u8 (B : Int)] 103)).later hb1)
    go_wp2
    exact ret32 Tryz.results107 (.inl rfl) rfl rfl rfl (pn_put3 HW.out) ⟨by rw [E.out]; rfl, pn_below_put3 hb (Nat.le_refl _) _ _ _⟩
  · have hn := num_ne_neg n h F G B hr
    have E : Hid (ofN n = (zeroP, false)) := ofN_neg n h
    obtain ⟨N, hN⟩ : ∃ N, numN ⟨F, G, B⟩ = N := ⟨_, rfl⟩
    rw [hN] at hn
    have HN := hide hN
    have hq : (N != n) = true := by simpa using hn
    clear hn hN
    have HR := hide hr
    clear hr
    go_enter Tryz.func107, Tryz.ntmps107
    go_wp2_with fail
    refine (pn_right_any F G B _).mono ?_
    rintro e w1 ⟨rfl, hb1⟩
    rw [HR.out]
    obtain ⟨hc, hz⟩ := pn_bcell hb1
    have hb := (((Below.refl w.heap.size w).alloc (Nat.le_refl _) _).alloc (by simp) _).trans (hb1.mono (by simp; omega))
    have HW := hide ((two_whole w 103 [.int .u8 0, .int .u8 0, .int .u8 0] (.cells #[.int .u8 (F : Int), .int .u8 (G : Int), .int .u8 (B : Int)] 103)).later hb1)
    have HV := hide ((pn_whole_snd w (.cells #[.int .u8 0, .int .u8 0, .int .u8 0] 103) 103 [.int .u8 (F : Int), .int .u8 (G : Int), .int .u8 (B : Int)]).later hb1)
    clear hb1
    go_wp2_with fail
    refine (number_any F G B _).mono ?_
    rintro e w2 ⟨rfl, hb2⟩
    rw [HN.out]
    clear hc hz
    have hbb := hb.trans (hb2.mono hb.size)
    have c0 := (HW.out.later hb2).cell 0
    have c1 := (HW.out.later hb2).cell 1
    have c2 := (HW.out.later hb2).cell 2
    have z0 := (HW.out.later hb2).frozen 0
    have z1 := (HW.out.later hb2).frozen 1
    have z2 := (HW.out.later hb2).frozen 2
    have d0 := (HV.out.later hb2).cell 0
    have d1 := (HV.out.later hb2).cell 1
    have d2 := (HV.out.later hb2).cell 2
    simp only [List.getElem?_cons_zero, List.getElem?_cons_succ] at c0 c1 c2 d0 d1 d2
    go_wp2
    exact ret32 Tryz.results107 (.inl rfl) rfl rfl rfl (pn_put3 (HW.out.later hb2)) ⟨by rw [E.out]; rfl, pn_below_put3 hbb (Nat.le_refl _) _ _ _⟩
theorem pn_of_any (n : Int) (h1 : -9223372036854775808 ≤ n) (h2 : n < 9223372036854775808) (w : World) : Calls Tryz.prog 107 #[.int .i64 n] w (Penned2 (ofN n) w) := by
  by_cases h : 0 ≤ n
  · exact of_pos n h h2 w
  · exact of_neg n (by omega) h1 w

theorem ofN_out (n : Int) (h : n < 0 ∨ 16927 < n) : ofN n = (zeroP, false) := by unfold ofN; rw [if_neg (by omega)]
/-- Numbers that lie in a block of type t. -/
def Tk (t : TypeId) (k : IntKind) (w : World) (a : Option Addr) (zs : List Int) : Prop := zs = [] ∨ ∃ b off cur, a = some ⟨b, off, none⟩ ∧ w.heap[b]? = some (.cells cur t (0, 0)) ∧ ∀ i, i < zs.length → w.cell? ⟨b, off + i, none⟩ = some (.int k (zs.getD i 0))
section
variable {t t' : TypeId} {k : IntKind} {w w' : World} {a : Option Addr} {zs : List Int}
theorem Tk.nil : Tk t k w a [] := .inl rfl
theorem Tk.ints (h : Tk t k w a zs) : Ints k w a zs := by
  rcases h with h | ⟨b, off, cur, ha, -, hc⟩
  · exact .inl h
  · exact .inr ⟨b, off, ha, hc⟩
theorem tk_heap {b o : Nat} (h : w'.heap[b]? = w.heap[b]?) : w'.cell? ⟨b, o, none⟩ = w.cell? ⟨b, o, none⟩ := by simp [World.cell?, h]
theorem Tk.keep (h : Tk t k w a zs) (hk : ∀ (b : Nat) (cur : Array Value), w.heap[b]? = some (Obj.cells cur t (0, 0)) → w'.heap[b]? = w.heap[b]?) : Tk t k w' a zs := by
  rcases h with h | ⟨b, off, cur, ha, hh, hc⟩
  · exact .inl h
  · have e := hk b cur hh
    exact .inr ⟨b, off, cur, ha, e.trans hh, fun i hi => (tk_heap e).trans (hc i hi)⟩
theorem Tk.below (h : Tk t k w a zs) (hb : Below w.heap.size w w') : Tk t k w' a zs := h.keep fun b _cur hh => hb.block b (Array.getElem?_eq_some_iff.1 hh).1
theorem Tk.only {g : Nat} {l : List Value} (h : Tk t k w a zs) (ho : Only g w w') (hw : Whole w g t' l) (ht : t' ≠ t) : Tk t k w' a zs := h.keep fun b cur hh => by
  refine World.grownBy.block ho b (Array.getElem?_eq_some_iff.1 hh).1 ?_
  intro e
  cases e
  rw [show w.heap[g]? = _ from hw] at hh
  simp only [Option.some.injEq, Obj.cells.injEq] at hh
  exact ht hh.2.1
theorem Tk.drop (h : Tk t k w a zs) (n : Nat) : Tk t k w (a.map (·.add n)) (zs.drop n) := by
  rcases h with h | ⟨b, off, cur, ha, hh, hc⟩
  · exact .inl (by simp [h])
  · refine .inr ⟨b, off + n, cur, ?_, hh, fun i hi => ?_⟩
    · subst ha; simp only [Option.map_some, Addr.add]; split <;> simp_all
    · rw [List.length_drop] at hi
      rw [show off + n + i = off + (n + i) by omega, hc (n + i) (by omega)]
      simp [List.getElem?_drop]
theorem Own.tk {B : Nat} {wr : World} {v : Value} (h : Own t k B w wr v zs) : ∃ A cap, v = .slice A zs.length cap ∧ Tk t k wr A zs ∧ zs.length ≤ cap ∧ (A = none → cap = 0) ∧ cap ≤ maxLen := by
  rcases h.own.2 with ⟨rfl, h0⟩ | ⟨g, cap, cur, rfl, _, hh, hc, hm, _, _⟩
  · have : zs = [] := List.eq_nil_of_length_eq_zero h0
    subst this
    exact ⟨none, 0, rfl, .nil, Nat.le_refl _, fun _ => rfl, Nat.zero_le _⟩
  · refine ⟨_, cap, rfl, .inr ⟨g, 0, cur, rfl, hh, fun i hi => ?_⟩, hc, (fun h => by cases h), hm⟩
    rw [Nat.zero_add, h.own.cellAt i (by omega)]
    simp [List.getElem?_eq_getElem hi]
end
end
end Go.Proofs.YtcbdokocnjoilaaGreatDoor
