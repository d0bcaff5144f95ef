/-
  Contracts and plain mathematics of RnParse, RnIn, Laid, RnP0, GBase, GRef, DCheck, LRight, GCat.
-/
import Derived.Test.YtcbdokocnjoilaaDoorB12
import Derived.Test.YtcbdokocnjoilaaDoorB9
import Derived.Test.YtcbdokocnjoilaaDoorB13
import Derived.Test.YtcbdokocnjoilaaDoorB7
import Derived.Test.YtcbdokocnjoilaaDoorB11
import Derived.Test.YtcbdokocnjoilaaDoorB5
import Derived.Test.YtcbdokocnjoilaaDoorB3
import Derived.LaidMore
import Derived.Deep.Strs
import Derived.Stop.Joined
import Derived.Test.YtcbdokocnjoilaaDoorB6
import Derived.BigQuiet
import Derived.Test.YtcbdokocnjoilaaDoorB4
import Derived.Test.YtcbdokocnjoilaaDoorB10
import Derived.Lib.AppendZeros
namespace Go.Proofs.YtcbdokocnjoilaaDoor
set_option maxRecDepth 100000
set_option linter.unusedVariables false
set_option maxHeartbeats 8000000
section
open Go.ChangeShapes Go.WideShapes Go.ChangeAt Go.RowKit
theorem stopped_nil (w : World) : Calls Tryd.prog 71 #[.pointer none] w fun e w' => e = .returned (.bool true) ∧ w = w' := by
  go_enter Tryd.func71, Tryd.ntmps71
  go_wp2
  go_ret
  exact ⟨rfl, rfl⟩
theorem next_nil (f : Value) (w : World) : Calls Tryd.prog 49 #[.pointer none, f] w fun e w' => e = .returned (.int .u64 0) ∧ w = w' := by
  go_enter Tryd.func49, Tryd.ntmps49
  go_wp2_with fail
  refine (stopped_nil w).mono ?_
  rintro e w1 ⟨rfl, rfl⟩
  go_wp2
  go_ret
  exact ⟨rfl, rfl⟩
theorem some_nil (n : Int) (w : World) : Calls Tryd.prog 52 #[.pointer none, .int .i64 n] w fun e w' => e = .returned (.int .i64 0) ∧ Below w.heap.size w w' := by
  go_enter Tryd.func52, Tryd.ntmps52
  go_wp2_with (first | (go_at_call 75; go_in) | (refine (next_nil _ _).mono ?_; rintro e w1 ⟨rfl, rfl⟩))
  go_ret
  exact ⟨rfl, ((Below.refl _ _).alloc (Nat.le_refl _) _).alloc (by simp) _⟩
theorem take_nil (w : World) : Calls Tryd.prog 76 #[.pointer none] w fun e w' => e = .returned (.slice none 0 0) ∧ Below w.heap.size w w' := by
  go_enter Tryd.func76, Tryd.ntmps76
  go_wp2_with fail
  refine (some_nil 512 w).mono ?_
  rintro e w1 ⟨rfl, hb1⟩
  go_wp2
  go_loopw [3, 8] (fun v i wr => v = .slice none 0 0 ∧ i = .int .i64 0 ∧ wr = w1) (fun _ _ _ => 0)
  case atStart => exact ⟨rfl, rfl, rfl⟩
  case round =>
    obtain ⟨rfl, rfl, rfl⟩ := hrel
    go_wp2
    go_ret
    exact ⟨rfl, hb1⟩

theorem new_s (A : Option Addr) (n c : Nat) (bs : List Int) (w : World) (h : Ints .u8 w A bs) (hn : bs.length = n) (hc : A = none → c = 0) (hlen : n ≤ 1000000) :
    Calls Tryd.prog 29 #[.slice A n c] w fun e w' => ∃ g, e = .returned (.pointer (some ⟨g, 0, none⟩)) ∧ RdS w' g bs (0, 0) ∧ w.heap.size ≤ g ∧ Below w.heap.size w w' := by
  have HN := hide hn
  clear hn
  go_enter Tryd.func29, Tryd.ntmps29
  go_wp2_with fail
  refine (nu_clone_any A n c bs _ h HN.out hc hlen).mono ?_
  rintro e w1 ⟨v, rfl, hv⟩
  obtain ⟨A', c', rfl, hi, hc', hc0, -⟩ := hv.tk
  go_wp2
  go_ret
  exact ⟨w1.heap.size, rfl, ⟨0, Nat.zero_le _, ⟨A', c', heap_alloc_new w1 _, hi.below ((Below.refl _ _).alloc (Nat.le_refl _) _), hc', hc0⟩, fun _ => rfl⟩, hv.le, hv.bel.alloc hv.le _⟩
theorem done_s (g : Nat) (xs : List Int) (s : Nat × Int) (w : World) (h : RdS w g xs s) : Calls Tryd.prog 33 #[.pointer (some ⟨g, 0, none⟩)] w fun e w' => e = .returned (.int .i64 (dVal xs s.1 s.2)) ∧ w = w' := by
  obtain ⟨t, h1, h2, h3⟩ := h
  refine (rdone_any g xs t s.2 w h2).mono ?_
  rintro e w' ⟨rfl, rfl⟩
  refine ⟨?_, rfl⟩
  by_cases q : s.2 = 0
  · rw [h3 q]
  · unfold dVal
    rw [if_neg (fun z => q z.1), if_neg (fun z => q z.1)]
/-- What Parse leaves. -/
def ParseS (w : World) (x : List Cel × Int) (e : Ending) (w' : World) : Prop := ∃ A c, e = .returned (.tuple #[.slice A x.1.length c, .int .i64 x.2]) ∧ Cels .i32 w' A x.1 ∧ x.1.length ≤ c ∧ Below w.heap.size w w'
theorem only_fresh {g : Nat} {w w0 w1 : World} (hb : Below w.heap.size w w0) (ho : Only g w0 w1) (hg : w.heap.size ≤ g) : Below w.heap.size w w1 :=
  ⟨ho.os.trans hb.os, ho.tape.trans hb.tape, ho.output.trans hb.output, Nat.le_trans hb.size ho.size, fun i hi => (World.grownBy.block ho i (Nat.lt_of_lt_of_le hi hb.size) (fun e => by cases e; omega)).trans (hb.block i hi)⟩
theorem bytesR_len (cs : List Cel) : (bytesR cs).length ≤ 70 * cs.length + 10 := by
  unfold bytesR
  rw [List.length_append]
  have h1 := runBytes_len (runsOf cs)
  have h2 := runs_le cs
  have h3 := (enc_len (countR cs)).2
  omega
section
variable {A C : Option Addr} {n c m d : Nat} {cs L : List Cel} {w : World}
theorem rn_cut (h : LineIn w A n c cs) (hL : cs.take (min n 30) = L) : Calls Tryd.prog 44 #[.slice A n c] w fun e w' => ∃ A' c', e = .returned (.slice A' L.length c') ∧ Cels .i32 w' A' L ∧ L.length ≤ c' ∧ Below w.heap.size w w' := by
  obtain ⟨h1, h2, h3, h4, -⟩ := h
  refine (lcut_any A n c cs w h1 h2 h4 h3).mono ?_
  rw [hL]
  rintro e w' ⟨v, he, ho⟩
  obtain ⟨A', c', hv, hc, hl, -⟩ := ho.form
  exact ⟨A', c', by rw [he, hv], hc, hl, ho.bel⟩
theorem rn_of (h : Cels .i32 w A cs) (hn : cs.length = n) (hl : n ≤ 1000000) (hb : LB cs) : Calls Tryd.prog 39 #[.slice A n c] w fun e w' => ∃ A' c', e = .returned (.slice A' n c') ∧ Cels .i64 w' A' cs ∧ Below w.heap.size w w' := by
  refine (lineof_any A n c cs w h hn hl hb).mono ?_
  rintro e w' ⟨v, he, ho⟩
  obtain ⟨A', c', hv, hc, -⟩ := ho.form
  exact ⟨A', c', by rw [he, hv, hn], hc, ho.bel⟩
/-- The program's Bytes: where the cells are right. -/
theorem rn_bytes (h : Cels .i32 w A cs) (hn : cs.length = n) (hlm : n ≤ 1000000) (hnc : n ≤ c) (hb : LB cs) (hS : Spans w) {bs : List Int} {er : Int} (he : checkR cs = er) (hbs : (if er = 0 then bytesR cs else []) = bs) : Calls Tryd.prog 42 #[.slice A n c] w fun e w' => ∃ A' c', e = .returned (.tuple #[.slice A' bs.length c', .int .i64 er]) ∧ Ints .u8 w' A' bs ∧ bs.length ≤ c' ∧ (A' = none → c' = 0) ∧ Below w.heap.size w w' := by
  refine (runbytes_any A n c cs w h hn hlm hnc (fun i hi => (hb i (by omega)).2.2.2) hS).mono ?_
  rintro e w' ⟨v, hr, ho⟩
  rw [he, hbs] at ho
  obtain ⟨A', c', hv, hc, hl, hz, -⟩ := ho.form2
  exact ⟨A', c', by rw [hr, hv, he], hc, hl, hz, ho.bel⟩
end
def laid1 : List (String × DataW Unit) := [("prolepsis/width.spans", Rows.laid_prolepsis_width_spans)]
theorem gSpans : Tryd.prog.globalNamed "prolepsis/width.spans" = some 0 := by kernel_rfl
theorem tSpans : (Tryd.prog.globals[0]?).map (·.type) = some 167 := by kernel_rfl
theorem size166 : Tryd.prog.cellsOf 166 = 3 := by kernel_rfl
theorem sizeT21 : Tryd.prog.cellsOf 21 = 1 := by kernel_rfl
theorem sizeT3 : Tryd.prog.cellsOf 3 = 1 := by kernel_rfl

def spanData (s : Int × Int × Int) : DataW Unit := .agg [.lit (.int .i32 s.1), .lit (.int .i32 s.2.1), .lit (.int .i64 s.2.2)]
theorem laid_is : (Rows.laid_prolepsis_width_spans : DataW Unit) = .agg (spans.map spanData) := rfl

theorem flat3 (l : List (Int × Int × Int)) : ∀ (i d : Nat), d < 3 → (l.flatMap cellsOf3)[3 * i + d]? = (l[i]?).bind (fun s => (cellsOf3 s)[d]?) := by
  induction l with
  | nil => intro i d _; simp
  | cons s l ih =>
    intro i d hd
    have hl : (cellsOf3 s).length = 3 := rfl
    rw [List.flatMap_cons]
    cases i with
    | zero => rw [List.getElem?_append_left (by omega)]; simp
    | succ i =>
      rw [List.getElem?_append_right (by omega), hl, show 3 * (i + 1) + d - 3 = 3 * i + d by omega, ih i d hd]
      simp

theorem struct166 : ∃ f0 f1 f2 : Field, Tryd.prog.underlying 166 = some (.struct #[f0, f1, f2]) ∧ f0.type = 21 ∧ f1.type = 21 ∧ f2.type = 3 ∧ f0.offset = 0 ∧ f1.offset = 1 ∧ f2.offset = 2 := ⟨_, _, _, Tryd.underlying166, rfl, rfl, rfl, rfl, rfl, rfl⟩

theorem cells_of_span {W : World} {base : Nat} {sp : Nat → Bool} {held : Bool} {fuel : Nat} {cs : List Value} {enc : TypeId × Value → Unit} {s : Int × Int × Int} {q : List MemPlace}
    (h : DataW.trod enc Tryd.prog W base sp held fuel 166 cs = some (spanData s, q)) : cs = cellsOf3 s := by
  obtain ⟨f0, f1, f2, hu, e0, e1, e2, o0, o1, o2⟩ := struct166
  obtain ⟨y0, y1, y2, m, hx, hl, h0, h1, h2⟩ := Deep.trod_struct3 hu h
  rw [e0, o0, sizeT21] at h0
  rw [e1, o1, sizeT21] at h1
  rw [e2, o2, sizeT3] at h2
  rw [size166] at hl
  obtain ⟨n0, c0, r0, _⟩ := DataW.trod_int Tryd.underlying21 h0
  obtain ⟨n1, c1, r1, _⟩ := DataW.trod_int Tryd.underlying21 h1
  obtain ⟨n2, c2, r2, _⟩ := DataW.trod_int Tryd.underlying3 h2
  subst r0 r1 r2
  obtain ⟨s1, s2, s3⟩ := s
  simp [spanData] at hx
  obtain ⟨⟨rfl, rfl, rfl⟩, _⟩ := hx
  match cs, hl with
  | [a, b, c], _ =>
    simp at c0 c1 c2
    subst c0 c1 c2
    rfl

/-- The table lies where the walks want it. -/
theorem of_laid {W : World} (h : laidMetH Tryd.prog laid1 W) : Spans W := by
  rw [MakeChecks.laidMetH_plain _ _ _ (by kernel_rfl)] at h
  obtain ⟨ps, ⟨g0, t0, cs0, f0, p0, q0, hg0, ht0, hv0, hd0, _, _⟩, _, _⟩ := h
  obtain rfl := Option.some.inj (gSpans.symm.trans hg0)
  obtain rfl := Option.some.inj (tSpans.symm.trans ht0)
  rw [laid_is] at hd0
  obtain ⟨xs, m, rfl, hx, hlen, hn, hel⟩ := DataW.trod_array Tryd.underlying167 hd0
  simp only [Prod.mk.injEq, DataW.agg.injEq] at hx
  intro j v hv
  have hj : j = 3 * (j / 3) + j % 3 := by omega
  have hd3 : j % 3 < 3 := by omega
  generalize j / 3 = i at hj
  generalize j % 3 = d at hj hd3
  subst hj
  unfold spanCells at hv
  rw [flat3 spans i d hd3] at hv
  cases hs : spans[i]? with
  | none => rw [hs] at hv; cases hv
  | some s =>
    rw [hs] at hv
    have hi : i < 18 := (List.getElem?_eq_some_iff.1 hs).1
    have he := hel i hi
    cases hxi : xs[i]? with
    | none => have := List.getElem?_eq_none_iff.1 hxi; omega
    | some x =>
      rw [hxi, size166] at he
      have h1 : (xs.map (·.1))[i]? = some x.1 := by rw [List.getElem?_map, hxi]; rfl
      rw [← hx.1, List.getElem?_map, hs] at h1
      have h2 : spanData s = x.1 := by simpa using h1
      obtain ⟨x1, x2⟩ := x
      simp only at h2
      subst h2
      have hc := cells_of_span he
      have hcd : (cellsOf3 s)[d]? = some v := hv
      rw [← hc, List.getElem?_take, if_pos hd3, List.getElem?_drop] at hcd
      have := World.var?_cell hg0 hv0 (i * 3 + d)
      rw [Nat.zero_add, show 3 * i + d = i * 3 + d by omega, this, ← Array.getElem?_toList]
      exact hcd

/-- The door's own heap meets the condition: three closed facts. -/
theorem door_met (os : Os) (args : Array Value) : laidMetH Tryd.prog laid1 ((World.doorLaid Tryd.prog 400 os).forCall (fun _ _ => 0) ⟨#[], args, []⟩).memory :=
  laidMetH_of_parts3 (fuel := 8) (laidMet_of_run' 8 (by kernel_rfl) (by kernel_rfl)) (by kernel_rfl) (by kernel_rfl)
theorem right_CelB {c : Cel} (h : rightC c = true) : CelB c := by
  obtain ⟨-, hf⟩ := right_facts h
  unfold CelB R32
  rcases hf with ⟨q, h1, h2, h3⟩ | ⟨q, h1, -, h2, h3⟩
  · rw [h1, h2, h3, q]; decide
  · omega
theorem all_LB {cs : List Cel} (h : cs.all rightC = true) : LB cs := fun i hi => right_CelB (List.all_eq_true.1 h _ (List.mem_of_getElem? (get_cAt cs i hi)))
theorem take_LB {xs : List Int} {s : Nat × Int} (hb : Byte xs) : LB (takeD xs s).2 ∧ (takeD xs s).2.length ≤ 512 := by
  by_cases q : (takeD xs s).1.2 = 0
  · obtain ⟨-, h1, h2, -⟩ := take_back hb q
    exact ⟨all_LB h2, h1⟩
  · have : (takeD xs s).2 = [] := by
      unfold takeD at q ⊢
      simp only at q ⊢
      split at q
      · rename_i h; exact absurd h q
      · rename_i h; rw [if_neg h]
    rw [this]
    exact ⟨fun i hi => absurd hi (by simp), by simp⟩
theorem parse_LB {xs : List Int} (hb : Byte xs) : LB (parseD xs).1 ∧ (parseD xs).1.length ≤ 512 := by
  unfold parseD
  simp only
  split
  · exact take_LB hb
  · exact ⟨fun i hi => absurd hi (by simp), by simp⟩
theorem Only.fresh {g : Nat} {w w1 w2 : World} (ho : Only g w1 w2) (hg : w.heap.size ≤ g) (hb : Below w.heap.size w w1) : Below w.heap.size w w2 := only_fresh hb ho hg
section
variable {w : World} {G L M R C : Nat} {g : Gd}
/-- May a grid have so many? -/
def sideB (n : Int) : Bool := decide (1 ≤ n ∧ n ≤ 512)
end
def sizeB (r c : Int) : Bool := decide (sizeN r c)
theorem rsize_any (r c : Int) (w : World) : Calls Tryd.prog 58 #[.int .i64 r, .int .i64 c] w fun e w' => e = .returned (.bool (sizeB r c)) ∧ w = w' := by
  by_cases h : sizeN r c
  · have HD : Hid (sizeB r c = true) := by unfold Hid sizeB; simpa using h
    obtain ⟨⟨h1, h2⟩, h3, h4⟩ := h
    go_enter Tryd.func58, Tryd.ntmps58
    go_wp2
    go_ret
    exact ⟨ret_bool HD.out.symm, rfl⟩
  · have HD : Hid (sizeB r c = false) := by unfold Hid sizeB; simpa using h
    have HN := hide h
    clear h
    by_cases h1 : 1 ≤ r
    · by_cases h2 : r ≤ 512
      · by_cases h3 : 1 ≤ c
        · have h4 : ¬ c ≤ 512 := fun q => HN.out ⟨⟨h1, h2⟩, h3, q⟩
          go_enter Tryd.func58, Tryd.ntmps58
          go_wp2
          go_ret
          exact ⟨ret_bool HD.out.symm, rfl⟩
        · go_enter Tryd.func58, Tryd.ntmps58
          go_wp2
          go_ret
          exact ⟨ret_bool HD.out.symm, rfl⟩
      · go_enter Tryd.func58, Tryd.ntmps58
        go_wp2
        go_ret
        exact ⟨ret_bool HD.out.symm, rfl⟩
    · go_enter Tryd.func58, Tryd.ntmps58
      go_wp2
      go_ret
      exact ⟨ret_bool HD.out.symm, rfl⟩
theorem new1W (w : World) (o : Obj) : Below w.heap.size w (w.alloc o) := (Below.refl _ _).alloc (Nat.le_refl _) _
theorem RwsC.fresh {B : Nat} {w wr : World} {A : Option Addr} {n cap : Nat} {zss : List (List Cel)} (h : RwsC B w wr (.slice A n cap) zss) (h1 : 1 ≤ zss.length) : ∃ b, A = some ⟨b, 0, none⟩ ∧ B ≤ b := by
  obtain ⟨xs, ho, _⟩ := h.row
  rcases ho.2 with ⟨e, h0⟩ | ⟨g, cap', cur, e, hB, _⟩
  · omega
  · cases e
    exact ⟨g, rfl, hB⟩
theorem Below.put3 {B : Nat} {W w : World} {q : Nat} (h : Below B W w) (hq : B ≤ q) (x0 x1 x2 : Value) : Below B W (((w.setCell ⟨q, 0, none⟩ x0).setCell ⟨q, 1, none⟩ x1).setCell ⟨q, 2, none⟩ x2) := below_put3 h hq x0 x1 x2
theorem Lns.put3 {w : World} {A : Option Addr} {ls : List (List Cel)} {q : Nat} {t : TypeId} {l : List Value} (h : Lns w A ls) (hq : Whole w q t l) (h1 : t ≠ 118) (h2 : t ≠ 79) (x0 x1 x2 : Value) : Lns (((w.setCell ⟨q, 0, none⟩ x0).setCell ⟨q, 1, none⟩ x1).setCell ⟨q, 2, none⟩ x2) A ls :=
  h.keep (((Stays.put hq (Ne.symm h1)).trans (Stays.put (hq.put 0 x0) (Ne.symm h1))).trans (Stays.put ((hq.put 0 x0).put 1 x1) (Ne.symm h1))) (((Stays.put hq (Ne.symm h2)).trans (Stays.put (hq.put 0 x0) (Ne.symm h2))).trans (Stays.put ((hq.put 0 x0).put 1 x1) (Ne.symm h2)))
theorem wr64 (n : Int) (h : -9223372036854775808 ≤ n ∧ n ≤ 9223372036854775807) : IntKind.i64.wrap n = n := by rw [IntKind.wrap_i64]; omega
/-! ### small questions -/
theorem dfside_any (n : Int) (w : World) : Calls Tryd.prog 60 #[.int .i64 n] w fun e w' => e = .returned (.bool (sideB n)) ∧ w = w' := by
  by_cases h0 : 1 ≤ n
  · by_cases h1 : n ≤ 512
    · have HD : Hid (sideB n = true) := by unfold Hid sideB; simp [h0, h1]
      go_enter Tryd.func60, Tryd.ntmps60
      go_wp2
      go_ret
      exact ⟨by rw [HD.out]; rfl, rfl⟩
    · have HD : Hid (sideB n = false) := by unfold Hid sideB; simp [h1]
      go_enter Tryd.func60, Tryd.ntmps60
      go_wp2
      go_ret
      exact ⟨by rw [HD.out]; rfl, rfl⟩
  · have HD : Hid (sideB n = false) := by unfold Hid sideB; simp [h0]
    go_enter Tryd.func60, Tryd.ntmps60
    go_wp2
    go_ret
    exact ⟨by rw [HD.out]; rfl, rfl⟩
def belowB (n m : Int) : Bool := decide (0 ≤ n ∧ n < m)
theorem dfbelow_any (n m : Int) (w : World) : Calls Tryd.prog 61 #[.int .i64 n, .int .i64 m] w fun e w' => e = .returned (.bool (belowB n m)) ∧ w = w' := by
  by_cases h0 : 0 ≤ n
  · by_cases h1 : n < m
    · have HD : Hid (belowB n m = true) := by unfold Hid belowB; simp [h0, h1]
      go_enter Tryd.func61, Tryd.ntmps61
      go_wp2
      go_ret
      exact ⟨by rw [HD.out]; rfl, rfl⟩
    · have HD : Hid (belowB n m = false) := by unfold Hid belowB; simp [h1]
      go_enter Tryd.func61, Tryd.ntmps61
      go_wp2
      go_ret
      exact ⟨by rw [HD.out]; rfl, rfl⟩
  · have HD : Hid (belowB n m = false) := by unfold Hid belowB; simp [h0]
    go_enter Tryd.func61, Tryd.ntmps61
    go_wp2
    go_ret
    exact ⟨by rw [HD.out]; rfl, rfl⟩
/-! ### how many cells -/
/-! ### what is wrong -/
theorem sp_bad (R C : Int) (ss : List Sp) (k n : Nat) (e : Int) (hk : k < n) (h0 : errTo (spE R C ss) k = 0) (he : spE R C ss k = e) (h : e ≠ 0) : errTo (spE R C ss) n = e := by
  rw [errTo_first _ k n hk h0 (by rw [he]; exact h), he]
theorem dfcheck_any (C : Nat) (te t : TypeId) (d : Df) (A : Option Addr) (n c : Nat) (w : World) (h : Sps C te t .i32 w A d.ss) (hC : C ≤ w.heap.size) (hn : d.ss.length = n) (hl : n ≤ 1000000) :
    Calls Tryd.prog 40 #[.agg #[.int .i64 d.rows, .int .i64 d.cols, .int .i64 d.row, .int .i64 d.col, .slice A n c]] w (Num .i64 (checkD d) w) := by
  obtain ⟨R, K, r0, l0, ss⟩ := d
  simp only at h hn ⊢
  obtain ⟨W0, hW0⟩ : ∃ W0, w.alloc (.cells #[.int .i64 R, .int .i64 K, .int .i64 r0, .int .i64 l0, .slice A n c] 26) = W0 := ⟨_, rfl⟩
  have HBx : Hid (Below w.heap.size w W0) := by unfold Hid; rw [← hW0]; exact (Below.refl _ _).alloc (Nat.le_refl _) _
  have HX : Hid (Whole W0 w.heap.size 26 [.int .i64 R, .int .i64 K, .int .i64 r0, .int .i64 l0, .slice A n c]) := by unfold Hid; rw [← hW0]; exact Whole.new w 26 [.int .i64 R, .int .i64 K, .int .i64 r0, .int .i64 l0, .slice A n c]
  have HA := hide (h.below HBx.out hC)
  have HC : Hid (C ≤ W0.heap.size) := Nat.le_trans hC HBx.out.size
  have HN := hide hn
  have HW := hide hW0
  clear h hn hW0 hC
  obtain ⟨d0, d1, d2, d3, d4, ld⟩ := cells5 HX.out
  obtain ⟨E, hE⟩ : ∃ E, checkD ⟨R, K, r0, l0, ss⟩ = E := ⟨_, rfl⟩
  rw [hE]
  unfold checkD at hE
  simp only at hE
  rw [HN.out] at hE
  by_cases hs : sizeN R K
  · rw [if_neg (fun q => q hs)] at hE
    have s1 : sideB R = true := by unfold sideB; simpa using hs.1
    have s2 : sideB K = true := by unfold sideB; simpa using hs.2
    by_cases hp : r0 < 0 ∨ R ≤ r0 ∨ l0 < 0 ∨ K ≤ l0
    · rw [if_pos hp] at hE
      subst hE
      by_cases hp1 : 0 ≤ r0 ∧ r0 < R
      · have b1 : belowB r0 R = true := by unfold belowB; simpa using hp1
        have b2 : belowB l0 K = false := by unfold belowB; simp; omega
        clear hs hp hp1
        go_enter Tryd.func40, Tryd.ntmps40
        go_wp2_with fail
        rw [HW.out]
        refine (dfside_any R W0).mono ?_
        rintro e k1 ⟨rfl, rfl⟩
        rw [s1]
        go_wp2_with fail
        refine (dfside_any K W0).mono ?_
        rintro e k1 ⟨rfl, rfl⟩
        rw [s2]
        go_wp2_with fail
        refine (dfbelow_any r0 R W0).mono ?_
        rintro e k1 ⟨rfl, rfl⟩
        rw [b1]
        go_wp2_with fail
        refine (dfbelow_any l0 K W0).mono ?_
        rintro e k1 ⟨rfl, rfl⟩
        rw [b2]
        go_wp2
        go_ret
        exact ⟨rfl, HBx.out⟩
      · have b1 : belowB r0 R = false := by unfold belowB; simpa using hp1
        clear hs hp hp1
        go_enter Tryd.func40, Tryd.ntmps40
        go_wp2_with fail
        rw [HW.out]
        refine (dfside_any R W0).mono ?_
        rintro e k1 ⟨rfl, rfl⟩
        rw [s1]
        go_wp2_with fail
        refine (dfside_any K W0).mono ?_
        rintro e k1 ⟨rfl, rfl⟩
        rw [s2]
        go_wp2_with fail
        refine (dfbelow_any r0 R W0).mono ?_
        rintro e k1 ⟨rfl, rfl⟩
        rw [b1]
        go_wp2
        go_ret
        exact ⟨rfl, HBx.out⟩
    · rw [if_neg hp] at hE
      have b1 : belowB r0 R = true := by unfold belowB; simp; omega
      have b2 : belowB l0 K = true := by unfold belowB; simp; omega
      have HE := hide hE
      have K1 : K ≤ 512 := hs.2.2
      clear hs hp hE
      go_enter Tryd.func40, Tryd.ntmps40
      go_wp2_with fail
      rw [HW.out]
      refine (dfside_any R W0).mono ?_
      rintro e k1 ⟨rfl, rfl⟩
      rw [s1]
      go_wp2_with fail
      refine (dfside_any K W0).mono ?_
      rintro e k1 ⟨rfl, rfl⟩
      rw [s2]
      go_wp2_with fail
      refine (dfbelow_any r0 R W0).mono ?_
      rintro e k1 ⟨rfl, rfl⟩
      rw [b1]
      go_wp2_with fail
      refine (dfbelow_any l0 K W0).mono ?_
      rintro e k1 ⟨rfl, rfl⟩
      rw [b2]
      go_wp2
      clear d0 d1 d2 d3 d4 ld b1 b2 s1 s2
      go_loopw [3, 4, 32] (fun _ _ i wr => ∃ k : Nat, k ≤ n ∧ i = .int .i64 k ∧ Hid (errTo (spE R K ss) k = 0) ∧ Below W0.heap.size W0 wr) (fun _ _ i _ => n - (intOf i).toNat)
      case atStart => exact ⟨0, Nat.zero_le _, rfl, rfl, Below.refl _ _⟩
      case round =>
        obtain ⟨k, hk, rfl, her, hbel⟩ := hrel
        by_cases hlt : k < n
        · obtain ⟨b, off, A1, c1, rfl, lb, x0, x1, x2, -⟩ := (HA.out.below hbel HC.out).at (i := k) (by rw [HN.out]; exact hlt)
          have hq : 0 < k → w.heap.size < wr.heap.size ∧ wr.cell? ⟨b, off + (k - 1) * 3, none⟩ = some (.int .i64 (sAt ss (k - 1)).row) := by
            intro q
            obtain ⟨b', off', A1', c1', e1, lb', y0, -⟩ := (HA.out.below hbel HC.out).at (i := k - 1) (by rw [HN.out]; omega)
            cases e1
            exact ⟨Nat.lt_of_lt_of_le HX.out.lt hbel.size, y0⟩
          obtain ⟨d0, d1, d2, d3, d4, ld⟩ := cells5 (HX.out.later hbel)
          have hsp : spE R K ss k = if 0 < k ∧ (sAt ss k).row ≤ (sAt ss (k - 1)).row then 17 else if (sAt ss k).row < 0 ∨ R ≤ (sAt ss k).row ∨ (sAt ss k).col < 0 ∨ K ≤ (sAt ss k).col ∨ K - (sAt ss k).col < ((sAt ss k).cs.length : Int) then 5 else if (sAt ss k).cs.length = 0 then 3 else 0 := rfl
          obtain ⟨x, hx⟩ : ∃ x, sAt ss k = x := ⟨_, rfl⟩
          rw [hx] at x0 x1 x2 hsp
          obtain ⟨r, l, cs⟩ := x
          simp only at x0 x1 x2 hsp
          obtain ⟨u, hu⟩ : ∃ u, cs.length = u := ⟨_, rfl⟩
          rw [hu] at x2 hsp
          obtain ⟨q, hqq⟩ : ∃ q, (sAt ss (k - 1)).row = q := ⟨_, rfl⟩
          rw [hqq] at hsp hq
          have HBr : Hid (Below W0.heap.size W0 (wr.alloc (.cells #[.int .i64 r, .int .i64 l, .slice A1 u c1] 88))) := hbel.alloc hbel.size _
          obtain ⟨W1, hW1⟩ : ∃ W1, wr.alloc (.cells #[.int .i64 r, .int .i64 l, .slice A1 u c1] 88) = W1 := ⟨_, rfl⟩
          obtain ⟨P1, hP1⟩ : ∃ P1, wr.heap.size = P1 := ⟨_, rfl⟩
          have z0 : Whole W1 P1 88 [.int .i64 r, .int .i64 l, .slice A1 u c1] := by rw [← hW1, ← hP1]; exact Whole.new wr 88 [.int .i64 r, .int .i64 l, .slice A1 u c1]
          obtain ⟨z0, z1, z2, lz⟩ := cells3 z0
          have hb1 : Below wr.heap.size wr W1 := by rw [← hW1]; exact new1W _ _
          have hq1 : 0 < k → W1.cell? ⟨b, off + (k - 1) * 3, none⟩ = some (.int .i64 q) := fun hk => by
            obtain ⟨-, h2⟩ := hq hk
            rw [hb1.cell (block_lt_of_cell h2)]; exact h2
          obtain ⟨f0, f1, f2, f3, f4, lf⟩ := cells5 ((HX.out.later hbel).later hb1)
          rw [hW1] at HBr
          have HW1 := hide hW1
          have HP1 := hide hP1
          have HER := hide her.out
          have HX1 := hide hx
          clear hx hu hqq hW1 hP1 hb1 her hbel hq
          by_cases hk0 : 0 < k
          · have y0 := hq1 hk0
            have wk : ((k : Int) - 1) = ((k - 1 : Nat) : Int) := by omega
            have wk2 : IntKind.i64.wrap ((k : Int) - 1) = ((k - 1 : Nat) : Int) := by rw [wr64 _ (by omega)]; omega
            clear hq1
            by_cases h17 : r ≤ q
            ·
              have HF : Hid (E = 17) := by
                unfold Hid
                rw [← HE.out]
                exact sp_bad R K ss k n 17 hlt HER.out (by rw [hsp]; rw [if_pos ⟨hk0, h17⟩]) (by omega)
              clear hsp
              go_wp2
              rw [HW1.out, HP1.out]
              go_quiet (fail)
              go_wp2
              go_ret
              exact ⟨by rw [HF.out]; rfl, HBx.out.trans ((HBr.out.drewN _).mono HBx.out.size)⟩
            ·
              by_cases hr : 0 ≤ r ∧ r < R
              · have b1 : belowB r R = true := by unfold belowB; simpa using hr
                by_cases hc : 0 ≤ l ∧ l < K
                · have b2 : belowB l K = true := by unfold belowB; simpa using hc
                  have wr1 : IntKind.i64.wrap (K - l) = K - l := wr64 _ (by omega)
                  by_cases hu1 : (u : Int) ≤ K - l
                  · have hu2 : ¬ (K - l < (u : Int)) := by omega
                    by_cases hu0 : u = 0
                    · subst hu0
                      have HF : Hid (E = 3) := by
                        unfold Hid
                        rw [← HE.out]
                        exact sp_bad R K ss k n 3 hlt HER.out (by rw [hsp]; rw [if_neg (by omega)]; rw [if_neg (by omega), if_pos rfl]) (by omega)
                      clear hsp
                      go_wp2
                      rw [HW1.out, HP1.out]
                      go_quiet (fail)
                      go_wp2_with fail
                      refine (dfbelow_any r R _).mono ?_
                      rintro e k1 ⟨rfl, rfl⟩
                      rw [b1]
                      go_wp2_with fail
                      refine (dfbelow_any l K _).mono ?_
                      rintro e k1 ⟨rfl, rfl⟩
                      rw [b2]
                      go_wp2
                      go_ret
                      exact ⟨by rw [HF.out]; rfl, HBx.out.trans ((HBr.out.drewN _).mono HBx.out.size)⟩
                    · have HNX : Hid (errTo (spE R K ss) (k + 1) = 0) := errTo_next _ k HER.out (by rw [hsp]; rw [if_neg (by omega)]; rw [if_neg (by omega), if_neg hu0])
                      have hu3 : ((u : Int) == 0) = false := by simpa using hu0
                      clear hsp
                      go_wp2
                      rw [HW1.out, HP1.out]
                      go_quiet (fail)
                      go_wp2_with fail
                      refine (dfbelow_any r R _).mono ?_
                      rintro e k1 ⟨rfl, rfl⟩
                      rw [b1]
                      go_wp2_with fail
                      refine (dfbelow_any l K _).mono ?_
                      rintro e k1 ⟨rfl, rfl⟩
                      rw [b2]
                      go_wp2
                      go_roundw
                      case rel => exact ⟨k + 1, by omega, by go_num, HNX, HBr.out.drewN _⟩
                      case measure => simp [intOf]; omega
                  · have hu2 : K - l < (u : Int) := by omega
                    have HF : Hid (E = 5) := by
                      unfold Hid
                      rw [← HE.out]
                      exact sp_bad R K ss k n 5 hlt HER.out (by rw [hsp]; rw [if_neg (by omega)]; rw [if_pos (by omega)]) (by omega)
                    clear hsp
                    go_wp2
                    rw [HW1.out, HP1.out]
                    go_quiet (fail)
                    go_wp2_with fail
                    refine (dfbelow_any r R _).mono ?_
                    rintro e k1 ⟨rfl, rfl⟩
                    rw [b1]
                    go_wp2_with fail
                    refine (dfbelow_any l K _).mono ?_
                    rintro e k1 ⟨rfl, rfl⟩
                    rw [b2]
                    go_wp2
                    go_ret
                    exact ⟨by rw [HF.out]; rfl, HBx.out.trans ((HBr.out.drewN _).mono HBx.out.size)⟩
                · have b2 : belowB l K = false := by unfold belowB; simpa using hc
                  have HF : Hid (E = 5) := by
                    unfold Hid
                    rw [← HE.out]
                    exact sp_bad R K ss k n 5 hlt HER.out (by rw [hsp]; rw [if_neg (by omega)]; rw [if_pos (by omega)]) (by omega)
                  clear hsp
                  go_wp2
                  rw [HW1.out, HP1.out]
                  go_quiet (fail)
                  go_wp2_with fail
                  refine (dfbelow_any r R _).mono ?_
                  rintro e k1 ⟨rfl, rfl⟩
                  rw [b1]
                  go_wp2_with fail
                  refine (dfbelow_any l K _).mono ?_
                  rintro e k1 ⟨rfl, rfl⟩
                  rw [b2]
                  go_wp2
                  go_ret
                  exact ⟨by rw [HF.out]; rfl, HBx.out.trans ((HBr.out.drewN _).mono HBx.out.size)⟩
              · have b1 : belowB r R = false := by unfold belowB; simpa using hr
                have HF : Hid (E = 5) := by
                  unfold Hid
                  rw [← HE.out]
                  exact sp_bad R K ss k n 5 hlt HER.out (by rw [hsp]; rw [if_neg (by omega)]; rw [if_pos (by omega)]) (by omega)
                clear hsp
                go_wp2
                rw [HW1.out, HP1.out]
                go_quiet (fail)
                go_wp2_with fail
                refine (dfbelow_any r R _).mono ?_
                rintro e k1 ⟨rfl, rfl⟩
                rw [b1]
                go_wp2
                go_ret
                exact ⟨by rw [HF.out]; rfl, HBx.out.trans ((HBr.out.drewN _).mono HBx.out.size)⟩
          · clear hq1
            by_cases hr : 0 ≤ r ∧ r < R
            · have b1 : belowB r R = true := by unfold belowB; simpa using hr
              by_cases hc : 0 ≤ l ∧ l < K
              · have b2 : belowB l K = true := by unfold belowB; simpa using hc
                have wr1 : IntKind.i64.wrap (K - l) = K - l := wr64 _ (by omega)
                by_cases hu1 : (u : Int) ≤ K - l
                · have hu2 : ¬ (K - l < (u : Int)) := by omega
                  by_cases hu0 : u = 0
                  · subst hu0
                    have HF : Hid (E = 3) := by
                      unfold Hid
                      rw [← HE.out]
                      exact sp_bad R K ss k n 3 hlt HER.out (by rw [hsp]; rw [if_neg (by omega)]; rw [if_neg (by omega), if_pos rfl]) (by omega)
                    clear hsp
                    go_wp2
                    rw [HW1.out, HP1.out]
                    go_quiet (fail)
                    go_wp2_with fail
                    refine (dfbelow_any r R _).mono ?_
                    rintro e k1 ⟨rfl, rfl⟩
                    rw [b1]
                    go_wp2_with fail
                    refine (dfbelow_any l K _).mono ?_
                    rintro e k1 ⟨rfl, rfl⟩
                    rw [b2]
                    go_wp2
                    go_ret
                    exact ⟨by rw [HF.out]; rfl, HBx.out.trans ((HBr.out.drewN _).mono HBx.out.size)⟩
                  · have HNX : Hid (errTo (spE R K ss) (k + 1) = 0) := errTo_next _ k HER.out (by rw [hsp]; rw [if_neg (by omega)]; rw [if_neg (by omega), if_neg hu0])
                    have hu3 : ((u : Int) == 0) = false := by simpa using hu0
                    clear hsp
                    go_wp2
                    rw [HW1.out, HP1.out]
                    go_quiet (fail)
                    go_wp2_with fail
                    refine (dfbelow_any r R _).mono ?_
                    rintro e k1 ⟨rfl, rfl⟩
                    rw [b1]
                    go_wp2_with fail
                    refine (dfbelow_any l K _).mono ?_
                    rintro e k1 ⟨rfl, rfl⟩
                    rw [b2]
                    go_wp2
                    go_roundw
                    case rel => exact ⟨k + 1, by omega, by go_num, HNX, HBr.out.drewN _⟩
                    case measure => simp [intOf]; omega
                · have hu2 : K - l < (u : Int) := by omega
                  have HF : Hid (E = 5) := by
                    unfold Hid
                    rw [← HE.out]
                    exact sp_bad R K ss k n 5 hlt HER.out (by rw [hsp]; rw [if_neg (by omega)]; rw [if_pos (by omega)]) (by omega)
                  clear hsp
                  go_wp2
                  rw [HW1.out, HP1.out]
                  go_quiet (fail)
                  go_wp2_with fail
                  refine (dfbelow_any r R _).mono ?_
                  rintro e k1 ⟨rfl, rfl⟩
                  rw [b1]
                  go_wp2_with fail
                  refine (dfbelow_any l K _).mono ?_
                  rintro e k1 ⟨rfl, rfl⟩
                  rw [b2]
                  go_wp2
                  go_ret
                  exact ⟨by rw [HF.out]; rfl, HBx.out.trans ((HBr.out.drewN _).mono HBx.out.size)⟩
              · have b2 : belowB l K = false := by unfold belowB; simpa using hc
                have HF : Hid (E = 5) := by
                  unfold Hid
                  rw [← HE.out]
                  exact sp_bad R K ss k n 5 hlt HER.out (by rw [hsp]; rw [if_neg (by omega)]; rw [if_pos (by omega)]) (by omega)
                clear hsp
                go_wp2
                rw [HW1.out, HP1.out]
                go_quiet (fail)
                go_wp2_with fail
                refine (dfbelow_any r R _).mono ?_
                rintro e k1 ⟨rfl, rfl⟩
                rw [b1]
                go_wp2_with fail
                refine (dfbelow_any l K _).mono ?_
                rintro e k1 ⟨rfl, rfl⟩
                rw [b2]
                go_wp2
                go_ret
                exact ⟨by rw [HF.out]; rfl, HBx.out.trans ((HBr.out.drewN _).mono HBx.out.size)⟩
            · have b1 : belowB r R = false := by unfold belowB; simpa using hr
              have HF : Hid (E = 5) := by
                unfold Hid
                rw [← HE.out]
                exact sp_bad R K ss k n 5 hlt HER.out (by rw [hsp]; rw [if_neg (by omega)]; rw [if_pos (by omega)]) (by omega)
              clear hsp
              go_wp2
              rw [HW1.out, HP1.out]
              go_quiet (fail)
              go_wp2_with fail
              refine (dfbelow_any r R _).mono ?_
              rintro e k1 ⟨rfl, rfl⟩
              rw [b1]
              go_wp2
              go_ret
              exact ⟨by rw [HF.out]; rfl, HBx.out.trans ((HBr.out.drewN _).mono HBx.out.size)⟩
        · have HF : Hid (E = 0) := by
            unfold Hid
            rw [← HE.out, show n = k by omega]
            exact her.out
          have HBr := hide hbel
          clear hbel
          go_wp2
          go_ret
          exact ⟨by rw [HF.out]; rfl, HBx.out.trans (HBr.out.mono HBx.out.size)⟩
  · rw [if_pos hs] at hE
    subst hE
    by_cases hs1 : 1 ≤ R ∧ R ≤ 512
    · have s1 : sideB R = true := by unfold sideB; simpa using hs1
      have s2 : sideB K = false := by unfold sideB sizeN at *; simp; omega
      clear hs hs1
      go_enter Tryd.func40, Tryd.ntmps40
      go_wp2_with fail
      rw [HW.out]
      refine (dfside_any R W0).mono ?_
      rintro e k1 ⟨rfl, rfl⟩
      rw [s1]
      go_wp2_with fail
      refine (dfside_any K W0).mono ?_
      rintro e k1 ⟨rfl, rfl⟩
      rw [s2]
      go_wp2
      go_ret
      exact ⟨rfl, HBx.out⟩
    · have s1 : sideB R = false := by unfold sideB; simpa using hs1
      clear hs hs1
      go_enter Tryd.func40, Tryd.ntmps40
      go_wp2_with fail
      rw [HW.out]
      refine (dfside_any R W0).mono ?_
      rintro e k1 ⟨rfl, rfl⟩
      rw [s1]
      go_wp2
      go_ret
      exact ⟨rfl, HBx.out⟩
theorem wrap_small (x : Int) (h0 : -9223372036854775808 ≤ x) (h1 : x ≤ 9223372036854775807) : IntKind.i64.wrap x = x := by
  simp [IntKind.wrap, IntKind.signed, IntKind.bits]
  omega
/-- A row of rows' values of the call's own. -/
structure OwnV (B : Nat) (w wr : World) (v : Value) (xs : List Value) : Prop where
  own : wr.ownsRow B 86 1 v xs.length xs
  bel : Below B w wr
  le : B ≤ wr.heap.size
/-- These values lie there. -/
def Vals (w : World) (ad : Addr) (xs : List Value) : Prop := (∀ j u, xs[j]? = some u → w.cell? (ad.add j) = some u) ∧ ∀ u ∈ xs, u.oneCell' = true
theorem Vals.below {w w' : World} {ad : Addr} {xs : List Value} (h : Vals w ad xs) (hb : Below w.heap.size w w') : Vals w' ad xs := by
  refine ⟨fun j u hu => ?_, h.2⟩
  have := h.1 j u hu
  rw [hb.cell (World.block_lt_of_cell? w _ this), this]
theorem OwnV.later {B : Nat} {w wr w1 : World} {v : Value} {xs : List Value} (h : OwnV B w wr v xs) (hb : Below wr.heap.size wr w1) : OwnV B w w1 v xs := by
  refine ⟨⟨h.own.1, ?_⟩, h.bel.trans (hb.mono h.le), Nat.le_trans h.le hb.size⟩
  rcases h.own.2 with h0 | ⟨g, cap, cur, hv, hB, hh, h1⟩
  · exact .inl h0
  · refine .inr ⟨g, cap, cur, hv, hB, ?_, h1⟩
    rw [hb.block g (Array.getElem?_eq_some_iff.1 hh).1, hh]
theorem OwnV.form {B : Nat} {w wr : World} {v : Value} {xs : List Value} (h : OwnV B w wr v xs) (hx : xs ≠ []) : ∃ g cap more, v = .slice (some ⟨g, 0, none⟩) xs.length cap ∧ B ≤ g ∧ Whole wr g 86 (xs ++ more) ∧ xs.length ≤ cap ∧ cap ≤ maxLen := by
  rcases h.own.2 with ⟨rfl, h0⟩ | ⟨g, cap, cur, rfl, hB, hh, hc, hm, hs, ht⟩
  · exact absurd (List.eq_nil_of_length_eq_zero h0) hx
  · refine ⟨g, cap, cur.toList.drop xs.length, rfl, hB, ?_, hc, hm⟩
    rw [Nat.mul_one] at ht
    have e := List.take_append_drop xs.length cur.toList
    rw [ht] at e
    unfold Whole
    rw [e]
    simpa using hh
end
end Go.Proofs.YtcbdokocnjoilaaDoor
