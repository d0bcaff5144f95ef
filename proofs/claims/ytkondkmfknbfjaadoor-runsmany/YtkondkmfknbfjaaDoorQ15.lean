/-
  Contracts and plain mathematics of RnParse, RnRef5, LRef4, LKnown, RnIn, RnWalkT, COpen, RnOpen, Laid, BRdr5, RnP0.
-/
import Derived.Test.YtkondkmfknbfjaaDoorQ13
import Derived.Test.YtkondkmfknbfjaaDoorQ11
import Derived.Test.YtkondkmfknbfjaaDoorQ14
import Derived.Test.YtkondkmfknbfjaaDoorQ7
import Derived.Test.YtkondkmfknbfjaaDoorQ4
import Derived.Test.YtkondkmfknbfjaaDoorQ5
import Derived.Test.YtkondkmfknbfjaaDoorQ9
import Derived.Test.YtkondkmfknbfjaaDoorQ6
import Derived.Lib.SmallJoins
import Derived.Deep.Strs
import Derived.OpenShut
import Derived.Deep.Slices
import Derived.Test.YtkondkmfknbfjaaDoorQ3
import Derived.LaidMore
import Derived.Stop.Joined
namespace Go.Proofs.YtkondkmfknbfjaaDoor
set_option maxRecDepth 100000
set_option linter.unusedVariables false
set_option maxHeartbeats 8000000
section
open Go.ChangeShapes Go.WideShapes Go.ChangeAt Go.RowKit
theorem stopped_nil (w : World) : Calls Tryd.prog 45 #[.pointer none] w fun e w' => e = .returned (.bool true) ∧ w = w' := by
  go_enter Tryd.func45, Tryd.ntmps45
  go_wp2
  go_ret
  exact ⟨rfl, rfl⟩
theorem next_nil (f : Value) (w : World) : Calls Tryd.prog 69 #[.pointer none, f] w fun e w' => e = .returned (.int .u64 0) ∧ w = w' := by
  go_enter Tryd.func69, Tryd.ntmps69
  go_wp2_with fail
  refine (stopped_nil w).mono ?_
  rintro e w1 ⟨rfl, rfl⟩
  go_wp2
  go_ret
  exact ⟨rfl, rfl⟩
theorem some_nil (n : Int) (w : World) : Calls Tryd.prog 49 #[.pointer none, .int .i64 n] w fun e w' => e = .returned (.int .i64 0) ∧ Below w.heap.size w w' := by
  go_enter Tryd.func49, Tryd.ntmps49
  go_wp2_with (first | (go_at_call 70; go_in) | (refine (next_nil _ _).mono ?_; rintro e w1 ⟨rfl, rfl⟩))
  go_ret
  exact ⟨rfl, ((Below.refl _ _).alloc (Nat.le_refl _) _).alloc (by simp) _⟩
theorem take_nil (w : World) : Calls Tryd.prog 23 #[.pointer none] w fun e w' => e = .returned (.slice none 0 0) ∧ Below w.heap.size w w' := by
  go_enter Tryd.func23, Tryd.ntmps23
  go_wp2_with fail
  refine (some_nil 512 w).mono ?_
  rintro e w1 ⟨rfl, hb1⟩
  go_wp2
  go_loopw [3, 8] (fun v i wr => v = .slice none 0 0 ∧ i = .int .i64 0 ∧ wr = w1) (fun _ _ _ => 0)
  case atStart => exact ⟨rfl, rfl, rfl⟩
  case round =>
    obtain ⟨rfl, rfl, rfl⟩ := hrel
    go_wp2
    go_ret
    exact ⟨rfl, hb1⟩

theorem new_s (A : Option Addr) (n c : Nat) (bs : List Int) (w : World) (h : Ints .u8 w A bs) (hn : bs.length = n) (hc : A = none → c = 0) (hlen : n ≤ 1000000) :
    Calls Tryd.prog 19 #[.slice A n c] w fun e w' => ∃ g, e = .returned (.pointer (some ⟨g, 0, none⟩)) ∧ RdS w' g bs (0, 0) ∧ w.heap.size ≤ g ∧ Below w.heap.size w w' := by
  have HN := hide hn
  clear hn
  go_enter Tryd.func19, Tryd.ntmps19
  go_wp2_with fail
  refine (nu_clone_any A n c bs _ h HN.out hc hlen).mono ?_
  rintro e w1 ⟨v, rfl, hv⟩
  obtain ⟨A', c', rfl, hi, hc', hc0, -⟩ := hv.tk
  go_wp2
  go_ret
  exact ⟨w1.heap.size, rfl, ⟨0, Nat.zero_le _, ⟨A', c', heap_alloc_new w1 _, hi.below ((Below.refl _ _).alloc (Nat.le_refl _) _), hc', hc0⟩, fun _ => rfl⟩, hv.le, hv.bel.alloc hv.le _⟩
theorem done_s (g : Nat) (xs : List Int) (s : Nat × Int) (w : World) (h : RdS w g xs s) : Calls Tryd.prog 36 #[.pointer (some ⟨g, 0, none⟩)] w fun e w' => e = .returned (.int .i64 (dVal xs s.1 s.2)) ∧ w = w' := by
  obtain ⟨t, h1, h2, h3⟩ := h
  refine (rdone_any g xs t s.2 w h2).mono ?_
  rintro e w' ⟨rfl, rfl⟩
  refine ⟨?_, rfl⟩
  by_cases q : s.2 = 0
  · rw [h3 q]
  · unfold dVal
    rw [if_neg (fun z => q z.1), if_neg (fun z => q z.1)]
theorem at_s (g : Nat) (xs : List Int) (s : Nat × Int) (w : World) (h : RdS w g xs s) (hE : s.2 = 0) : Calls Tryd.prog 25 #[.pointer (some ⟨g, 0, none⟩)] w fun e w' => e = .returned (.int .i64 (s.1 : Int)) ∧ w = w' := by
  obtain ⟨t, h1, h2, h3⟩ := h
  rw [← h3 hE]
  exact rat_any g _ _ s.2 w h2
/-- What Parse leaves. -/
def ParseS (w : World) (x : List Cel × Int) (e : Ending) (w' : World) : Prop := ∃ A c, e = .returned (.tuple #[.slice A x.1.length c, .int .i64 x.2]) ∧ Cels .i32 w' A x.1 ∧ x.1.length ≤ c ∧ Below w.heap.size w w'
theorem only_fresh {g : Nat} {w w0 w1 : World} (hb : Below w.heap.size w w0) (ho : Only g w0 w1) (hg : w.heap.size ≤ g) : Below w.heap.size w w1 :=
  ⟨ho.os.trans hb.os, ho.tape.trans hb.tape, ho.output.trans hb.output, Nat.le_trans hb.size ho.size, fun i hi => (World.grownBy.block ho i (Nat.lt_of_lt_of_le hi hb.size) (fun e => by cases e; omega)).trans (hb.block i hi)⟩
theorem parse_s (A : Option Addr) (n c : Nat) (xs : List Int) (w : World) (h : Ints .u8 w A xs) (hn : xs.length = n) (hc : A = none → c = 0) (hlen : n ≤ 1000000) (hb : Byte xs) (hS : Spans w) :
    Calls Tryd.prog 13 #[.slice A n c] w (ParseS w (parseD xs)) := by
  have KEY := hide (new_s A n c xs w h hn hc hlen)
  have HN := hide hn
  have HS := hide hS
  obtain ⟨⟨⟨T, E⟩, out⟩, hX⟩ : ∃ X, takeD xs (0, 0) = X := ⟨_, rfl⟩
  have HX := hide hX
  obtain ⟨D, hD⟩ : ∃ D, dVal xs T E = D := ⟨_, rfl⟩
  have HD := hide hD
  have HP : Hid (parseD xs = if D = 0 then (out, 0) else ([], D)) := by
    unfold Hid parseD
    simp only [hX, hD]
  clear h hn hS hX hD
  go_enter Tryd.func13, Tryd.ntmps13
  go_wp2_with fail
  refine KEY.out.mono ?_
  rintro e w1 ⟨g, rfl, hr1, hg1, hb1⟩
  have HR1 := hide hr1
  have HG1 := hide hg1
  have HB1 := hide hb1
  clear hr1 hg1 hb1
  go_wp2_with fail
  refine (take_s g xs (0, 0) w1 HR1.out hb (by rw [HN.out]; exact hlen) (HS.out.below HB1.out)).mono ?_
  rw [HX.out]
  rintro e w2 ⟨A2, c2, rfl, hc2, hl2, ho2, hr2⟩
  simp only at hc2 hl2 hr2
  obtain ⟨L2, hL2⟩ : ∃ L2, out.length = L2 := ⟨_, rfl⟩
  simp only
  rw [hL2] at hl2 ⊢
  have HL2 := hide hL2
  have HC2 := hide hc2
  have HR2 := hide hr2
  have HB2 := hide (only_fresh HB1.out ho2 HG1.out)
  have HLC := hide hl2
  clear hc2 hr2 ho2 hL2 hl2
  go_wp2_with fail
  refine (done_s g xs (T, E) w2 HR2.out).mono ?_
  simp only
  rw [HD.out]
  rintro e w3 ⟨rfl, rfl⟩
  by_cases hz : D = 0
  · have hq : (D != 0) = false := by simpa using hz
    have HF : Hid (parseD xs = (out, 0)) := by unfold Hid; rw [HP.out, if_pos hz]
    clear hz
    go_wp2
    go_ret2
    exact ⟨A2, c2, by rw [HF.out, HL2.out]; rfl, by rw [HF.out]; exact HC2.out, by rw [HF.out, HL2.out]; exact HLC.out, HB2.out⟩
  · have hq : (D != 0) = true := by simpa using hz
    have HF : Hid (parseD xs = ([], D)) := by unfold Hid; rw [HP.out, if_neg hz]
    clear hz
    go_wp2
    go_ret2
    exact ⟨none, 0, by rw [HF.out]; rfl, by rw [HF.out]; exact .nil, by rw [HF.out]; exact Nat.le_refl _, HB2.out⟩
/-- What the document's Parse leaves. -/
def ParseN (w : World) (x : List Cel × Int) (e : Ending) (w' : World) : Prop := ∃ A c, e = .returned (.tuple #[.slice A x.1.length c, .int .i64 x.2]) ∧ Cels .i64 w' A x.1 ∧ x.1.length ≤ c ∧ Below w.heap.size w w'
theorem rrparse_any (A : Option Addr) (n c : Nat) (xs : List Int) (w : World) (h : Ints .u8 w A xs) (hn : xs.length = n) (hc : n ≤ c) (hlen : n ≤ 1000000) (hb : Byte xs) :
    Calls Tryd.prog 17 #[.slice A n c] w (ParseN w (parseD xs)) := by
  have KEY := hide (rrtake_any A n c xs (0, 0) w h hn hb hlen hc (Nat.zero_le _))
  have HN := hide hn
  obtain ⟨⟨⟨T, E⟩, out⟩, hX⟩ : ∃ X, takeD xs (0, 0) = X := ⟨_, rfl⟩
  rw [hX] at KEY
  obtain ⟨D, hD⟩ : ∃ D, dVal xs T E = D := ⟨_, rfl⟩
  have HD := hide hD
  have HP : Hid (parseD xs = if D = 0 then (out, 0) else ([], D)) := by
    unfold Hid parseD
    simp only [hX, hD]
  have HI := hide h
  clear h hn hX hD
  go_enter Tryd.func17, Tryd.ntmps17
  go_wp2_with fail
  refine KEY.out.mono ?_
  rintro e w2 ⟨A2, c2, rfl, hc2, hl2, hb2⟩
  simp only at hc2 hl2
  obtain ⟨L2, hL2⟩ : ∃ L2, out.length = L2 := ⟨_, rfl⟩
  simp only
  rw [hL2] at hl2 ⊢
  have HL2 := hide hL2
  have HC2 := hide hc2
  have HB2 := hide hb2
  have HLC := hide hl2
  clear hc2 hb2 hL2 hl2
  obtain ⟨w3, hw3⟩ : ∃ w3, w2.alloc (.cells #[.slice A n c, .int .i64 (T : Int), .int .i64 E] 46) = w3 := ⟨_, rfl⟩
  have hb3 : Below w2.heap.size w2 w3 := by rw [← hw3]; exact (Below.refl _ _).alloc (Nat.le_refl _) _
  have HX3 : Hid (Whole w3 w2.heap.size 46 [.slice A n c, .int .i64 (T : Int), .int .i64 E]) := by unfold Hid; rw [← hw3]; exact Whole.new w2 46 _
  have HC3 := hide (HC2.out.below hb3)
  have HB3 := hide (HB2.out.trans (hb3.mono HB2.out.size))
  have HW3 := hide hw3
  clear hb3 hw3
  go_wp2_with fail
  rw [HW3.out]
  refine (rdone A n c xs T E w3 HN.out).mono ?_
  rw [HD.out]
  rintro e w4 ⟨rfl, hb4⟩
  have HC4 := hide (HC3.out.below hb4)
  have HB4 := hide (HB3.out.trans (hb4.mono HB3.out.size))
  have HX4 := hide (HX3.out.later hb4)
  clear hb4
  have x0 := HX4.out.cell 0
  have x1 := HX4.out.cell 1
  have x2 := HX4.out.cell 2
  simp only [List.getElem?_cons_zero, List.getElem?_cons_succ] at x0 x1 x2
  by_cases hz : D = 0
  · have hq : (D != 0) = false := by simpa using hz
    have HF : Hid (parseD xs = (out, 0)) := by unfold Hid; rw [HP.out, if_pos hz]
    clear hz
    go_wp2
    go_ret2
    exact ⟨A2, c2, by rw [HF.out, HL2.out]; rfl, by rw [HF.out]; exact HC4.out, by rw [HF.out, HL2.out]; exact HLC.out, HB4.out⟩
  · have hq : (D != 0) = true := by simpa using hz
    have HF : Hid (parseD xs = ([], D)) := by unfold Hid; rw [HP.out, if_neg hz]
    clear hz
    go_wp2_with fail
    refine (rdone A n c xs T E w4 HN.out).mono ?_
    rw [HD.out]
    rintro e w5 ⟨rfl, hb5⟩
    have HB5 := hide (HB4.out.trans (hb5.mono HB4.out.size))
    clear hb5 x0 x1 x2
    go_wp2
    go_ret2
    exact ⟨none, 0, by rw [HF.out]; rfl, by rw [HF.out]; exact .nil, by rw [HF.out]; exact Nat.le_refl _, HB5.out⟩
theorem flat_set (k : IntKind) (cs : List Cel) (j : Nat) (c : Cel) (h : j < cs.length) : (flatC k cs).take (j * 7) ++ ([.int k c.r, .int k c.m, .int k c.n, .int .u8 (c.w : Int), .int .u8 (c.p.f : Int), .int .u8 (c.p.g : Int), .int .u8 (c.p.b : Int)] ++ (flatC k cs).drop (j * 7 + 7)) = flatC k (cs.set j c) := by
  rw [set_lay cs j c h, flat_lay]
  rfl
/-- A row of the call's own, one cell stored. -/
theorem OwnC.put {e : TypeId} {k : IntKind} {B : Nat} {w wr : World} {g n cap : Nat} {cs : List Cel} (h : OwnC e k B w wr (.slice (some ⟨g, 0, none⟩) n cap) cs) (hn : cs.length = n) (o j : Nat) (ho : o = j * 7) (hj : j < n) (c : Cel) :
    OwnC e k B w (((((((wr.setCell ⟨g, o, none⟩ (.int k c.r)).setCell ⟨g, o + 1, none⟩ (.int k c.m)).setCell ⟨g, o + 2, none⟩ (.int k c.n)).setCell ⟨g, o + 3, none⟩ (.int .u8 (c.w : Int))).setCell ⟨g, o + 4, none⟩ (.int .u8 (c.p.f : Int))).setCell ⟨g, o + 5, none⟩ (.int .u8 (c.p.g : Int))).setCell ⟨g, o + 6, none⟩ (.int .u8 (c.p.b : Int))) (.slice (some ⟨g, 0, none⟩) n cap) (cs.set j c) := by
  subst hn
  have hB : B ≤ g := (h.own.lt g rfl).1
  have s0 := (h.own.stored o (.int k c.r)).1
  have s1 := (s0.stored (o + 1) (.int k c.m)).1
  have s2 := (s1.stored (o + 2) (.int k c.n)).1
  have s3 := (s2.stored (o + 3) (.int .u8 (c.w : Int))).1
  have s4 := (s3.stored (o + 4) (.int .u8 (c.p.f : Int))).1
  have s5 := (s4.stored (o + 5) (.int .u8 (c.p.g : Int))).1
  have s6 := (s5.stored (o + 6) (.int .u8 (c.p.b : Int))).1
  clear s0 s1 s2 s3 s4 s5
  rw [set7 _ o (by rw [flatC_len]; omega)] at s6
  subst ho
  rw [flat_set k cs j c hj] at s6
  refine ⟨?_, (only_cell (j * 7) _ _ _ _ _ _ _).below h.bel h.le hB, ?_⟩
  · rw [List.length_set]; exact s6
  · have := h.le; simp only [World.size_setCell]; exact this
theorem lsame_any (A C : Option Addr) (n c m d : Nat) (xs ys : List Cel) (w : World) (ha : Cels .i32 w A xs) (hb : Cels .i64 w C ys) (hn : xs.length = n) (hm : ys.length = m) (hl : n ≤ 1000000) (hlb : LB xs) :
    Calls Tryd.prog 18 #[.slice A n c, .slice C m d] w (Said (decide (xs = ys)) w) := by
  have HA := hide ha
  have HC := hide hb
  have HN := hide hn
  have HM := hide hm
  have HL := hide hlb
  clear ha hb hn hm hlb
  go_enter Tryd.func18, Tryd.ntmps18
  go_wp2_with fail
  refine (lineof_any A n c xs w HA.out HN.out hl HL.out).mono ?_
  rintro e w1 ⟨v1, rfl, ho1⟩
  obtain ⟨A1, c1, rfl, hc1, -⟩ := ho1.form
  rw [HN.out]
  have HC1 := hide hc1
  have HB1 := hide ho1.bel
  clear ho1 hc1
  go_wp2_with fail
  refine (rsame6_any A1 C n c1 m d xs ys w1 HC1.out (HC.out.below HB1.out) HN.out HM.out hl).mono ?_
  rintro e w2 ⟨rfl, hb2⟩
  have HB2 := hide (HB1.out.trans (hb2.mono HB1.out.size))
  clear hb2
  go_wp2
  go_ret
  exact ⟨rfl, HB2.out⟩
/-- What is known of a line that came in. -/
def LineIn (w : World) (A : Option Addr) (len cap : Nat) (cs : List Cel) : Prop := Cels .i32 w A cs ∧ len ≤ cs.length ∧ len ≤ cap ∧ (A = none → cap = 0) ∧ LB cs
theorem LB_take {cs : List Cel} (h : LB cs) (n : Nat) : LB (cs.take n) := by
  intro i hi
  rw [List.length_take] at hi
  have : cAt (cs.take n) i = cAt cs i := by unfold cAt; simp [show i < n by omega]
  rw [this]
  exact h i (by omega)
theorem bytesR_len (cs : List Cel) : (bytesR cs).length ≤ 70 * cs.length + 10 := by
  unfold bytesR
  rw [List.length_append]
  have h1 := runBytes_len (runsOf cs)
  have h2 := runs_le cs
  have h3 := (enc_len (countR cs)).2
  omega
section
variable {A C : Option Addr} {n c m d : Nat} {cs L : List Cel} {w : World}
theorem rn_cut (h : LineIn w A n c cs) (hL : cs.take (min n 30) = L) : Calls Tryd.prog 6 #[.slice A n c] w fun e w' => ∃ A' c', e = .returned (.slice A' L.length c') ∧ Cels .i32 w' A' L ∧ L.length ≤ c' ∧ Below w.heap.size w w' := by
  obtain ⟨h1, h2, h3, h4, -⟩ := h
  refine (lcut_any A n c cs w h1 h2 h4 h3).mono ?_
  rw [hL]
  rintro e w' ⟨v, he, ho⟩
  obtain ⟨A', c', hv, hc, hl, -⟩ := ho.form
  exact ⟨A', c', by rw [he, hv], hc, hl, ho.bel⟩
theorem rn_of (h : Cels .i32 w A cs) (hn : cs.length = n) (hl : n ≤ 1000000) (hb : LB cs) : Calls Tryd.prog 7 #[.slice A n c] w fun e w' => ∃ A' c', e = .returned (.slice A' n c') ∧ Cels .i64 w' A' cs ∧ Below w.heap.size w w' := by
  refine (lineof_any A n c cs w h hn hl hb).mono ?_
  rintro e w' ⟨v, he, ho⟩
  obtain ⟨A', c', hv, hc, -⟩ := ho.form
  exact ⟨A', c', by rw [he, hv, hn], hc, ho.bel⟩
/-- The program's Bytes: where the cells are right. -/
theorem rn_bytes (h : Cels .i32 w A cs) (hn : cs.length = n) (hlm : n ≤ 1000000) (hnc : n ≤ c) (hb : LB cs) (hS : Spans w) {bs : List Int} {er : Int} (he : checkR cs = er) (hbs : (if er = 0 then bytesR cs else []) = bs) : Calls Tryd.prog 8 #[.slice A n c] w fun e w' => ∃ A' c', e = .returned (.tuple #[.slice A' bs.length c', .int .i64 er]) ∧ Ints .u8 w' A' bs ∧ bs.length ≤ c' ∧ (A' = none → c' = 0) ∧ Below w.heap.size w w' := by
  refine (runbytes_any A n c cs w h hn hlm hnc (fun i hi => (hb i (by omega)).2.2.2) hS).mono ?_
  rintro e w' ⟨v, hr, ho⟩
  rw [he, hbs] at ho
  obtain ⟨A', c', hv, hc, hl, hz, -⟩ := ho.form2
  exact ⟨A', c', by rw [hr, hv, he], hc, hl, hz, ho.bel⟩
theorem rn_rbytes (h : Cels .i64 w A cs) (hn : cs.length = n) (hl : n ≤ 512) (hw : cs.all rightC = true) {bs : List Int} (hbs : bytesR cs = bs) : Calls Tryd.prog 15 #[.slice A n c] w fun e w' => ∃ A' c', e = .returned (.slice A' bs.length c') ∧ Ints .u8 w' A' bs ∧ Below w.heap.size w w' := by
  refine (rrbytes_any A n c cs w h hn hl hw).mono ?_
  rintro e w' ⟨v, hr, ho⟩
  rw [hbs] at ho
  obtain ⟨A', c', hv, hc, -, -, -⟩ := ho.form2
  exact ⟨A', c', by rw [hr, hv], hc, ho.bel⟩
end
theorem runsTell_walk (A : Option Addr) (len cap : Nat) (cs : List Cel) (w : World) (hI : LineIn w A len cap cs) (hS : Spans w) :
    Calls Tryd.prog 3 #[.slice A len cap] w fun e w' => e = .returned (.bool true) ∧ Below w.heap.size w w' := by
  have HI := hide hI
  have HS := hide hS
  obtain ⟨L, hL⟩ : ∃ L, cs.take (min len 30) = L := ⟨_, rfl⟩
  have HLB : Hid (LB L) := by unfold Hid; rw [← hL]; exact LB_take hI.2.2.2.2 _
  have hn : L.length ≤ 30 := by rw [← hL, List.length_take]; omega
  have hbl := bytesR_len L
  obtain ⟨N, hN⟩ : ∃ N, L.length = N := ⟨_, rfl⟩
  rw [hN] at hn hbl
  have HL := hide hL
  have HN := hide hN
  obtain ⟨er, her⟩ : ∃ er, checkR L = er := ⟨_, rfl⟩
  have HER := hide her
  obtain ⟨bs, hbs⟩ : ∃ bs, (if er = 0 then bytesR L else []) = bs := ⟨_, rfl⟩
  have HBS := hide hbs
  have hkl : bs.length ≤ 5000 := by
    rw [← hbs]
    split
    · omega
    · simp
  obtain ⟨K, hK⟩ : ∃ K, bs.length = K := ⟨_, rfl⟩
  rw [hK] at hkl
  have HK := hide hK
  clear hI hS hL hN her hbs hK hbl
  go_enter Tryd.func3, Tryd.ntmps3
  go_wp2_with fail
  refine (rn_cut HI.out HL.out).mono ?_
  rw [HN.out]
  rintro e w1 ⟨A1, c1, rfl, hc, hlc, hb⟩
  have HB1 := hide hb
  have HS1 := hide (HS.out.below hb)
  have HC1 := hide hc
  have HLC := hide hlc
  clear hc hb hlc
  go_wp2_with fail
  refine (rn_of HC1.out HN.out (by omega) HLB.out).mono ?_
  rintro e w2 ⟨A2, c2, rfl, hc, hb⟩
  have HB2 := hide (HB1.out.trans (hb.mono HB1.out.size))
  have HS2 := hide (HS1.out.below hb)
  have HC2 := hide (HC1.out.below hb)
  have HD2 := hide hc
  clear hc hb
  go_wp2_with fail
  refine (rn_bytes HC2.out HN.out (by omega) HLC.out HLB.out HS2.out HER.out HBS.out).mono ?_
  rw [HK.out]
  rintro e w3 ⟨A3, c3, rfl, hi, hl3, hz3, hb⟩
  have HB3 := hide (HB2.out.trans (hb.mono HB2.out.size))
  have HS3 := hide (HS2.out.below hb)
  have HC3 := hide (HC2.out.below hb)
  have HD3 := hide (HD2.out.below hb)
  have HI3 := hide hi
  have HZ3 := hide hz3
  clear hi hz3 hb
  go_wp2_with fail
  refine (rrcheck_any A2 N c2 L w3 HD3.out HN.out (by omega) (fun i hi => (HLB.out i (by rw [HN.out]; exact hi)).2.2.2)).mono ?_
  rw [HER.out]
  rintro e w4 ⟨rfl, hb⟩
  have HB4 := hide (HB3.out.trans (hb.mono HB3.out.size))
  have HS4 := hide (HS3.out.below hb)
  have HC4 := hide (HC3.out.below hb)
  have HD4 := hide (HD3.out.below hb)
  have HI4 := hide (HI3.out.below hb)
  clear hb
  have e0 : (er != er) = false := by simp
  go_wp2_with fail
  refine (runcount_any A1 N c1 L w4 HC4.out HN.out (by omega) HLC.out).mono ?_
  rintro e w5 ⟨rfl, hb⟩
  have HB5 := hide (HB4.out.trans (hb.mono HB4.out.size))
  have HS5 := hide (HS4.out.below hb)
  have HC5 := hide (HC4.out.below hb)
  have HD5 := hide (HD4.out.below hb)
  have HI5 := hide (HI4.out.below hb)
  clear hb
  go_wp2_with fail
  refine (rrcount_any A2 N c2 L w5 HD5.out HN.out (by omega)).mono ?_
  rintro e w6 ⟨rfl, hb⟩
  have HB6 := hide (HB5.out.trans (hb.mono HB5.out.size))
  have HS6 := hide (HS5.out.below hb)
  have HC6 := hide (HC5.out.below hb)
  have HD6 := hide (HD5.out.below hb)
  have HI6 := hide (HI5.out.below hb)
  clear hb
  have e1 : ((countR L : Int) != (countR L : Int)) = false := by simp
  by_cases hz : er = 0
  · have e2 : (er != 0) = false := by simpa using hz
    have e3 : (er == 0) = true := by simpa using hz
    obtain ⟨hl5, hall⟩ := checkR_zero (HER.out.trans hz)
    have hbe : bytesR L = bs := by have := HBS.out; rwa [if_pos hz] at this
    have HBE := hide hbe
    have HAL := hide hall
    have HBY : Hid (Byte bs) := by unfold Hid; rw [← hbe]; exact bytesR_byte hl5 hall
    have HPE : Hid (parseD bs = (L, 0)) := by unfold Hid; rw [← hbe]; exact parse_enc hl5 hall
    clear hz hbe hall hl5
    go_wp2_with fail
    refine (parse_s A3 K c3 bs w6 HI6.out HK.out HZ3.out (by omega) HBY.out HS6.out).mono ?_
    rw [HPE.out]
    rintro e w7 ⟨A7, c7, rfl, hc, -, hb⟩
    simp only at hc
    simp only
    rw [HN.out]
    have HB7 := hide (HB6.out.trans (hb.mono HB6.out.size))
    have HS7 := hide (HS6.out.below hb)
    have HC7 := hide (HC6.out.below hb)
    have HD7 := hide (HD6.out.below hb)
    have HI7 := hide (HI6.out.below hb)
    have HP7 := hide hc
    clear hb hc
    go_wp2_with fail
    refine (runsknown_any w7 HS7.out).mono ?_
    rintro e w8 ⟨rfl, hb⟩
    have HB8 := hide (HB7.out.trans (hb.mono HB7.out.size))
    have HC8 := hide (HC7.out.below hb)
    have HD8 := hide (HD7.out.below hb)
    have HI8 := hide (HI7.out.below hb)
    have HP8 := hide (HP7.out.below hb)
    clear hb
    go_wp2_with fail
    refine (rn_rbytes HD8.out HN.out (by omega) HAL.out HBE.out).mono ?_
    rw [HK.out]
    rintro e w9 ⟨A9, c9, rfl, hi, hb⟩
    have HB9 := hide (HB8.out.trans (hb.mono HB8.out.size))
    have HC9 := hide (HC8.out.below hb)
    have HI9 := hide (HI8.out.below hb)
    have HJ9 := hide hi
    have HP9 := hide (HP8.out.below hb)
    clear hb hi
    go_wp2_with fail
    refine (nu_same_yes A3 A9 K c3 c9 bs w9 HI9.out HJ9.out HK.out HBY.out).mono ?_
    rintro e w10 ⟨rfl, rfl⟩
    go_wp2_with fail
    refine (same6_any A7 A1 N c7 N c1 L L w9 HP9.out HC9.out HN.out HN.out (by omega)).mono ?_
    rw [decide_eq_true rfl]
    rintro e w11 ⟨rfl, hb⟩
    have HB11 := hide (HB9.out.trans (hb.mono HB9.out.size))
    clear hb
    go_wp2
    go_ret
    exact ⟨rfl, HB11.out⟩
  · have e2 : (er != 0) = true := by simpa using hz
    have hk0 : K = 0 := by
      have h1 := HBS.out
      rw [if_neg hz] at h1
      rw [← HK.out, ← h1]
      rfl
    subst hk0
    clear hz
    go_wp2_with fail
    refine (runsknown_any w6 HS6.out).mono ?_
    rintro e w8 ⟨rfl, hb⟩
    have HB8 := hide (HB6.out.trans (hb.mono HB6.out.size))
    clear hb
    go_wp2
    go_ret
    exact ⟨rfl, HB8.out⟩
end
section
open Go.ChangeShapes Go.WideShapes Go.ChangeAt Go.RowKit Go.Joins
theorem structCell : ∃ f0 f1 f2 f3 : Field, Tryd.prog.underlying 60 = some (.struct #[f0, f1, f2, f3]) ∧ f0.type = 21 ∧ f1.type = 56 ∧ f2.type = 5 ∧ f3.type = 58 ∧ f0.offset = 0 ∧ f1.offset = 1 ∧ f2.offset = 3 ∧ f3.offset = 4 := ⟨_, _, _, _, Tryd.underlying60, rfl, rfl, rfl, rfl, rfl, rfl, rfl, rfl⟩
theorem structPen : ∃ f0 f1 f2 : Field, Tryd.prog.underlying 58 = some (.struct #[f0, f1, f2]) ∧ f0.type = 5 ∧ f1.type = 5 ∧ f2.type = 5 ∧ f0.offset = 0 ∧ f1.offset = 1 ∧ f2.offset = 2 := ⟨_, _, _, Tryd.underlying58, rfl, rfl, rfl, rfl, rfl, rfl⟩
theorem sizeCell : Tryd.prog.cellsOf 60 = 7 := by kernel_rfl
theorem sizePen : Tryd.prog.cellsOf 58 = 3 := by kernel_rfl
theorem sizeM : Tryd.prog.cellsOf 56 = 2 := by kernel_rfl
theorem sizeU8 : Tryd.prog.cellsOf 5 = 1 := by kernel_rfl
theorem array7 {α : Type} {cs : Array α} (h : cs.size = 7) : ∃ c0 c1 c2 c3 c4 c5 c6, cs = #[c0, c1, c2, c3, c4, c5, c6] := by
  obtain ⟨l⟩ := cs
  match l, h with
  | [c0, c1, c2, c3, c4, c5, c6], _ => exact ⟨c0, c1, c2, c3, c4, c5, c6, rfl⟩

section
variable {H : Type} {enc : TypeId × Value → H} {w : World} {base : Nat} {spare : Nat → Bool} {held : Bool}
theorem cells_pen {fuel : Nat} {c0 c1 c2 : Value} {x : DataW H × List MemPlace} (h : DataW.trod enc Tryd.prog w base spare held fuel 58 [c0, c1, c2] = some x) :
    ∃ f g b : Nat, c0 = .int .u8 (f : Int) ∧ c1 = .int .u8 (g : Int) ∧ c2 = .int .u8 (b : Int) ∧ PenOk f g b := by
  obtain ⟨f0, f1, f2, hu, e0, e1, e2, o0, o1, o2⟩ := structPen
  obtain ⟨y0, y1, y2, n, hx, hl, h0, h1, h2⟩ := Deep.trod_struct3 hu h
  rw [e0, o0, sizeU8] at h0
  rw [e1, o1, sizeU8] at h1
  rw [e2, o2, sizeU8] at h2
  obtain ⟨n0, k0, r0, w0⟩ := DataW.trod_int Tryd.underlying5 h0
  obtain ⟨n1, k1, r1, w1⟩ := DataW.trod_int Tryd.underlying5 h1
  obtain ⟨n2, k2, r2, w2⟩ := DataW.trod_int Tryd.underlying5 h2
  simp at k0 k1 k2
  subst k0 k1 k2
  obtain ⟨a0, rfl, m0⟩ := u8_nat w0
  obtain ⟨a1, rfl, m1⟩ := u8_nat w1
  obtain ⟨a2, rfl, m2⟩ := u8_nat w2
  exact ⟨a0, a1, a2, rfl, rfl, rfl, m0, m1, m2⟩
theorem cells_marks {fuel : Nat} {c0 c1 : Value} {x : DataW H × List MemPlace} (h : DataW.trod enc Tryd.prog w base spare held fuel 56 [c0, c1] = some x) :
    ∃ m n : Int, c0 = .int .i32 m ∧ c1 = .int .i32 n ∧ R32 m ∧ R32 n := by
  obtain ⟨xs, k, rfl, hx, hl, hn, hel⟩ := DataW.trod_array Tryd.underlying56 h
  have h0 := hel 0 (by omega)
  have h1 := hel 1 (by omega)
  rw [cellsI32] at h0 h1
  match xs, hn with
  | [y0, y1], _ =>
    simp at h0 h1
    obtain ⟨n0, k0, r0, w0⟩ := DataW.trod_int Tryd.underlying21 h0
    obtain ⟨n1, k1, r1, w1⟩ := DataW.trod_int Tryd.underlying21 h1
    simp at k0 k1
    subst k0 k1
    exact ⟨n0, n1, rfl, rfl, i32_R w0, i32_R w1⟩
theorem cells_cell {fuel : Nat} {c0 c1 c2 c3 c4 c5 c6 : Value} {x : DataW H × List MemPlace} (h : DataW.trod enc Tryd.prog w base spare held fuel 60 [c0, c1, c2, c3, c4, c5, c6] = some x) :
    ∃ (r m n : Int) (d f g b : Nat), [c0, c1, c2, c3, c4, c5, c6] = [.int .i32 r, .int .i32 m, .int .i32 n, .int .u8 (d : Int), .int .u8 (f : Int), .int .u8 (g : Int), .int .u8 (b : Int)] ∧ CelOk r m n d f g b := by
  obtain ⟨f0, f1, f2, f3, hu, e0, e1, e2, e3, o0, o1, o2, o3⟩ := structCell
  obtain ⟨y0, y1, y2, y3, n, hx, hl, h0, h1, h2, h3⟩ := trod_struct4 hu h
  rw [e0, o0, cellsI32] at h0
  rw [e1, o1, sizeM] at h1
  rw [e2, o2, sizeU8] at h2
  rw [e3, o3, sizePen] at h3
  simp only [List.drop_zero, List.drop_succ_cons, List.take_succ_cons, List.take_zero] at h0 h1 h2 h3
  obtain ⟨n0, k0, r0, w0⟩ := DataW.trod_int Tryd.underlying21 h0
  obtain ⟨m, n1, rfl, rfl, w1, w2⟩ := cells_marks h1
  obtain ⟨n3, k3, r3, w3⟩ := DataW.trod_int Tryd.underlying5 h2
  obtain ⟨f, g, b, rfl, rfl, rfl, w4, w5, w6⟩ := cells_pen h3
  simp at k0 k3
  subst k0 k3
  obtain ⟨d, rfl, w7⟩ := u8_nat w3
  exact ⟨n0, m, n1, d, f, g, b, rfl, i32_R w0, w1, w2, w7, w4, w5, w6⟩
theorem open_cell {r : Reach} {b0 : Nat} {v : Value} {x : DataW H} {p : List MemPlace} (hv : Value.okWide Tryd.prog w r b0 60 v) (h : DataW.Trod enc Tryd.prog w base spare held 60 v x p) :
    ∃ (r m n : Int) (d f g b : Nat), v = .agg #[.int .i32 r, .int .i32 m, .int .i32 n, .int .u8 (d : Int), .int .u8 (f : Int), .int .u8 (g : Int), .int .u8 (b : Int)] ∧ CelOk r m n d f g b := by
  obtain ⟨f0, f1, f2, f3, hu, -⟩ := structCell
  obtain ⟨cs, rfl, hsz⟩ := okWide_struct hu hv
  obtain ⟨c0, c1, c2, c3, c4, c5, c6, rfl⟩ := array7 (hsz.trans sizeCell)
  obtain ⟨fuel, hf⟩ := h
  obtain ⟨r, m, n, d, f, g, b, e, ok⟩ := cells_cell hf
  simp only [List.cons.injEq, and_true] at e
  obtain ⟨rfl, rfl, rfl, rfl, rfl, rfl, rfl⟩ := e
  exact ⟨r, m, n, d, f, g, b, rfl, ok⟩
end
theorem LB_tab {n : Nat} {f : Nat → Cel} (h : ∀ i, i < n → CelB (f i)) : LB (tab n f) := by
  intro i hi
  rw [tab_len] at hi
  rw [tab_cAt n f i hi]
  exact h i hi
/-- The values of a line whose cells are known one by one. -/
theorem cels_of_each {k : IntKind} {w : World} {b off n : Nat} {F : Nat → Cel} (h : ∀ i, i < n → ∀ d v, (cellL k (F i))[d]? = some v → w.cell? ⟨b, off + (i * 7 + d), none⟩ = some v) : Cels k w (some ⟨b, off, none⟩) (tab n F) := by
  refine .inr ⟨b, off, rfl, fun j v hj => ?_⟩
  have hl : j < n * 7 := by have := (List.getElem?_eq_some_iff.1 hj).1; rwa [flatC_len, tab_len] at this
  have e : j = j / 7 * 7 + j % 7 := by omega
  have hq : j / 7 < n := by omega
  have hd : j % 7 < 7 := by omega
  rw [e, flatC_get k _ _ _ hd, tab_get _ _ _ hq] at hj
  have := h (j / 7) hq (j % 7) v hj
  rwa [← e] at this
theorem list7 {α : Type} {cs : List α} (h : cs.length = 7) : ∃ c0 c1 c2 c3 c4 c5 c6, cs = [c0, c1, c2, c3, c4, c5, c6] := by
  match cs, h with
  | [c0, c1, c2, c3, c4, c5, c6], _ => exact ⟨c0, c1, c2, c3, c4, c5, c6, rfl⟩
section
variable {H : Type} {enc : TypeId × Value → H} {w : World} {base : Nat} {spare : Nat → Bool} {held : Bool}
theorem open_line {a : Option Addr} {len cap : Nat} {x : DataW H} {p : List MemPlace} (h : DataW.Trod enc Tryd.prog w base spare held 22 (.slice a len cap) x p) : ∃ cs, LineIn w a len cap cs := by
  obtain ⟨fuel, hf⟩ := h
  rcases Deep.open_slice Tryd.underlying22 hf with ⟨hcs, _⟩ | ⟨ad, l, c, m, n, D, Pl, hcs, hb, hl, hm, hmm, _, hel⟩
  · simp [Value.cells] at hcs
    obtain ⟨rfl, rfl, rfl⟩ := hcs
    exact ⟨[], .nil, Nat.le_refl _, Nat.le_refl _, fun _ => rfl, fun i hi => by cases hi⟩
  · simp [Value.cells] at hcs
    obtain ⟨rfl, rfl, rfl⟩ := hcs
    have hlm : len ≤ m := by rw [hmm]; split <;> omega
    rw [sizeCell] at hel
    have each : ∀ i, i < len → ∃ c : Cel, CelB c ∧ ∀ d v, (cellL .i32 c)[d]? = some v → w.cell? ((ad.add (i * 7)).add d) = some v := by
      intro i hi
      obtain ⟨cs', h1, h2⟩ := hel i (by omega)
      obtain ⟨-, h3, h4⟩ := World.cells?_some h1
      obtain ⟨c0, c1, c2, c3, c4, c5, c6, rfl⟩ := list7 h3
      obtain ⟨r, q, y, z, f, g, b, e, ok⟩ := cells_cell h2
      refine ⟨⟨r, q, y, z, ⟨f, g, b⟩⟩, ⟨ok.1, ok.2.1, ok.2.2.1, ok.2.2.2.1⟩, fun d v hv => ?_⟩
      have hd : d < 7 := (List.getElem?_eq_some_iff.1 hv).1
      rw [h4 d hd, e]
      exact hv
    by_cases h0 : len = 0
    · subst h0
      exact ⟨[], .nil, Nat.le_refl _, hl, (fun h => by cases h), fun i hi => by cases hi⟩
    · obtain ⟨c0, _, hc0⟩ := each 0 (by omega)
      have hs : ad.spot = none := by
        have := World.cell?_spot (hc0 0 _ rfl)
        simpa [Addr.add] using this
      obtain ⟨b, off, spot⟩ := ad
      simp only at hs
      subst hs
      have hadd : ∀ i j, ((⟨b, off, none⟩ : Addr).add i).add j = ⟨b, off + (i + j), none⟩ := by
        intro i j
        have e1 : ∀ (o q : Nat), (⟨b, o, none⟩ : Addr).add q = ⟨b, o + q, none⟩ := fun o q => by unfold Addr.add; split <;> simp_all
        rw [e1, e1, Nat.add_assoc]
      have each2 : ∀ i : Nat, ∃ c : Cel, i < len → CelB c ∧ ∀ d v, (cellL .i32 c)[d]? = some v → w.cell? ⟨b, off + (i * 7 + d), none⟩ = some v := by
        intro i
        by_cases hi : i < len
        · obtain ⟨c, h1, h2⟩ := each i hi
          exact ⟨c, fun _ => ⟨h1, fun d v hv => by rw [← hadd]; exact h2 d v hv⟩⟩
        · exact ⟨zeroC, fun q => absurd q hi⟩
      let F : Nat → Cel := fun i => Classical.choose (each2 i)
      have hF : ∀ i, i < len → CelB (F i) ∧ ∀ d v, (cellL .i32 (F i))[d]? = some v → w.cell? ⟨b, off + (i * 7 + d), none⟩ = some v := fun i hi => Classical.choose_spec (each2 i) hi
      exact ⟨tab len F, cels_of_each fun i hi => (hF i hi).2, by rw [tab_len]; exact Nat.le_refl _, hl, (fun h => by cases h), LB_tab fun i hi => (hF i hi).1⟩
end
end
section
open Go.ChangeShapes Go.WideShapes Go.ChangeAt Go.RowKit
def laid1 : List (String × DataW Unit) := [("prolepsis/width.spans", Rows.laid_prolepsis_width_spans)]
theorem gSpans : Tryd.prog.globalNamed "prolepsis/width.spans" = some 0 := by kernel_rfl
theorem tSpans : (Tryd.prog.globals[0]?).map (·.type) = some 130 := by kernel_rfl
theorem size129 : Tryd.prog.cellsOf 129 = 3 := by kernel_rfl
theorem sizeT21 : Tryd.prog.cellsOf 21 = 1 := by kernel_rfl
theorem sizeT3 : Tryd.prog.cellsOf 3 = 1 := by kernel_rfl

def spanData (s : Int × Int × Int) : DataW Unit := .agg [.lit (.int .i32 s.1), .lit (.int .i32 s.2.1), .lit (.int .i64 s.2.2)]
theorem laid_is : (Rows.laid_prolepsis_width_spans : DataW Unit) = .agg (spans.map spanData) := rfl

theorem flat3 (l : List (Int × Int × Int)) : ∀ (i d : Nat), d < 3 → (l.flatMap cellsOf3)[3 * i + d]? = (l[i]?).bind (fun s => (cellsOf3 s)[d]?) := by
  induction l with
  | nil => intro i d _; simp
  | cons s l ih =>
    intro i d hd
    have hl : (cellsOf3 s).length = 3 := rfl
    rw [List.flatMap_cons]
    cases i with
    | zero => rw [List.getElem?_append_left (by omega)]; simp
    | succ i =>
      rw [List.getElem?_append_right (by omega), hl, show 3 * (i + 1) + d - 3 = 3 * i + d by omega, ih i d hd]
      simp

theorem struct129 : ∃ f0 f1 f2 : Field, Tryd.prog.underlying 129 = some (.struct #[f0, f1, f2]) ∧ f0.type = 21 ∧ f1.type = 21 ∧ f2.type = 3 ∧ f0.offset = 0 ∧ f1.offset = 1 ∧ f2.offset = 2 := ⟨_, _, _, Tryd.underlying129, rfl, rfl, rfl, rfl, rfl, rfl⟩

theorem cells_of_span {W : World} {base : Nat} {sp : Nat → Bool} {held : Bool} {fuel : Nat} {cs : List Value} {enc : TypeId × Value → Unit} {s : Int × Int × Int} {q : List MemPlace}
    (h : DataW.trod enc Tryd.prog W base sp held fuel 129 cs = some (spanData s, q)) : cs = cellsOf3 s := by
  obtain ⟨f0, f1, f2, hu, e0, e1, e2, o0, o1, o2⟩ := struct129
  obtain ⟨y0, y1, y2, m, hx, hl, h0, h1, h2⟩ := Deep.trod_struct3 hu h
  rw [e0, o0, sizeT21] at h0
  rw [e1, o1, sizeT21] at h1
  rw [e2, o2, sizeT3] at h2
  rw [size129] at hl
  obtain ⟨n0, c0, r0, _⟩ := DataW.trod_int Tryd.underlying21 h0
  obtain ⟨n1, c1, r1, _⟩ := DataW.trod_int Tryd.underlying21 h1
  obtain ⟨n2, c2, r2, _⟩ := DataW.trod_int Tryd.underlying3 h2
  subst r0 r1 r2
  obtain ⟨s1, s2, s3⟩ := s
  simp [spanData] at hx
  obtain ⟨⟨rfl, rfl, rfl⟩, _⟩ := hx
  match cs, hl with
  | [a, b, c], _ =>
    simp at c0 c1 c2
    subst c0 c1 c2
    rfl

/-- The table lies where the walks want it. -/
theorem of_laid {W : World} (h : laidMetH Tryd.prog laid1 W) : Spans W := by
  rw [MakeChecks.laidMetH_plain _ _ _ (by kernel_rfl)] at h
  obtain ⟨ps, ⟨g0, t0, cs0, f0, p0, q0, hg0, ht0, hv0, hd0, _, _⟩, _, _⟩ := h
  obtain rfl := Option.some.inj (gSpans.symm.trans hg0)
  obtain rfl := Option.some.inj (tSpans.symm.trans ht0)
  rw [laid_is] at hd0
  obtain ⟨xs, m, rfl, hx, hlen, hn, hel⟩ := DataW.trod_array Tryd.underlying130 hd0
  simp only [Prod.mk.injEq, DataW.agg.injEq] at hx
  intro j v hv
  have hj : j = 3 * (j / 3) + j % 3 := by omega
  have hd3 : j % 3 < 3 := by omega
  generalize j / 3 = i at hj
  generalize j % 3 = d at hj hd3
  subst hj
  unfold spanCells at hv
  rw [flat3 spans i d hd3] at hv
  cases hs : spans[i]? with
  | none => rw [hs] at hv; cases hv
  | some s =>
    rw [hs] at hv
    have hi : i < 18 := (List.getElem?_eq_some_iff.1 hs).1
    have he := hel i hi
    cases hxi : xs[i]? with
    | none => have := List.getElem?_eq_none_iff.1 hxi; omega
    | some x =>
      rw [hxi, size129] at he
      have h1 : (xs.map (·.1))[i]? = some x.1 := by rw [List.getElem?_map, hxi]; rfl
      rw [← hx.1, List.getElem?_map, hs] at h1
      have h2 : spanData s = x.1 := by simpa using h1
      obtain ⟨x1, x2⟩ := x
      simp only at h2
      subst h2
      have hc := cells_of_span he
      have hcd : (cellsOf3 s)[d]? = some v := hv
      rw [← hc, List.getElem?_take, if_pos hd3, List.getElem?_drop] at hcd
      have := World.var?_cell hg0 hv0 (i * 3 + d)
      rw [Nat.zero_add, show 3 * i + d = i * 3 + d by omega, this, ← Array.getElem?_toList]
      exact hcd

/-- The door's own heap meets the condition: three closed facts. -/
theorem door_met (os : Os) (args : Array Value) : laidMetH Tryd.prog laid1 ((World.doorLaid Tryd.prog 400 os).forCall (fun _ _ => 0) ⟨#[], args, []⟩).memory :=
  laidMetH_of_parts3 (fuel := 8) (laidMet_of_run' 8 (by kernel_rfl) (by kernel_rfl)) (by kernel_rfl) (by kernel_rfl)
/-- What the document's Take leaves. -/
def RTakes (w : World) (s : Value) (out : List Int) (e : Ending) (w' : World) : Prop :=
  ∃ A c, e = .returned (.tuple #[s, .slice A out.length c]) ∧ Ints .u8 w' A out ∧ Below w.heap.size w w'

theorem ints_four {w2 : World} {g0 g1 : Nat} {A : Option Addr} {out : List Int} {x y : List Value} (i2 : Ints .u8 w2 A out) (wa : Whole w2 g0 46 x) (wb : Whole w2 g1 46 y) (hne : g1 ≠ g0)
    (nx : ∀ z, Value.int .u8 z ∉ x) (ny : ∀ z, Value.int .u8 z ∉ y) (u v0 v1 v2 : Value) :
    Ints .u8 ((((w2.setCell ⟨g0, 1, none⟩ u).setCell ⟨g1, 0, none⟩ v0).setCell ⟨g1, 1, none⟩ v1).setCell ⟨g1, 2, none⟩ v2) A out := by
  have o1 : Only g0 w2 (w2.setCell ⟨g0, 1, none⟩ u) := Only.put 1 u
  have i3 := o1.ints i2 wa nx
  have wb3 := wb.far o1 hne
  have o2 : Only g1 (w2.setCell ⟨g0, 1, none⟩ u) ((((w2.setCell ⟨g0, 1, none⟩ u).setCell ⟨g1, 0, none⟩ v0).setCell ⟨g1, 1, none⟩ v1).setCell ⟨g1, 2, none⟩ v2) := ((Only.put 0 v0).trans (Only.put 1 v1)).trans (Only.put 2 v2)
  exact o2.ints i3 wb3 ny
theorem take_facts {w w2 : World} {v2 x0 x1 x2 y0 y1 y2 : Value} {out : List Int} {L : Nat} (hL : out.length = L)
    (h : Own 5 .u8 (w.heap.size + 1 + 1) ((w.alloc (.cells #[x0, x1, x2] 46)).alloc (.cells #[y0, y1, y2] 46)) w2 v2 out) :
    ∃ A2 c2, v2 = .slice A2 L c2 ∧ Ints .u8 w2 A2 out ∧ nu_Two 46 46 w w2 x0 x1 x2 y0 y1 y2 ∧ Below w.heap.size w w2 := by
  subst hL
  obtain ⟨A2, c2, hv2, i2, hc2, hA2⟩ := h.form
  have hsz : ((w.alloc (.cells #[x0, x1, x2] 46)).alloc (.cells #[y0, y1, y2] 46)).heap.size = w.heap.size + 1 + 1 := by simp
  have hb2 := h.bel
  rw [← hsz] at hb2
  have hbl := below2 w (.cells #[x0, x1, x2] 46) (.cells #[y0, y1, y2] 46)
  exact ⟨A2, c2, hv2, i2, two_mk hb2, hbl.trans (hb2.mono hbl.size)⟩

theorem rtake_ok (a : Option Addr) (n c : Nat) (xs : List Int) (t m : Nat) (w : World) (hi : Ints .u8 w a xs) (hl : xs.length = n) (hn : n ≤ 1000000) (hc : n ≤ c) (hm : t + m ≤ n) (hA : a = none → c = 0) :
    Calls Tryd.prog 21 #[.agg #[.slice a n c, .int .i64 t, .int .i64 0], .int .i64 m] w (RTakes w (.agg #[.slice a n c, .int .i64 ((t + m : Nat) : Int), .int .i64 0]) ((xs.drop t).take m)) := by
  have hbl := below2 w (.cells #[.slice a n c, .int .i64 t, .int .i64 0] 46) (.cells #[.slice none 0 0, .int .i64 0, .int .i64 0] 46)
  have hi2 := (hi.below hbl).alloc (.cells #[] 5)
  have ho := Own.empty ((w.alloc (.cells #[.slice a n c, .int .i64 t, .int .i64 0] 46)).alloc (.cells #[.slice none 0 0, .int .i64 0, .int .i64 0] 46)) 5 .u8
  have hsz : ((w.alloc (.cells #[.slice a n c, .int .i64 t, .int .i64 0] 46)).alloc (.cells #[.slice none 0 0, .int .i64 0, .int .i64 0] 46)).heap.size = w.heap.size + 1 + 1 := by simp
  rw [hsz] at ho
  have HLT : Hid (((xs.drop t).take m).length = m) := by unfold Hid; rw [List.length_take, List.length_drop]; omega
  have hdec : decide ((n : Int) - (t : Int) < (m : Int)) = false := decide_eq_false (by omega)
  have hneg : decide ((m : Int) < 0) = false := decide_eq_false (by omega)
  have HL := hide hl
  have HA := hide hA
  clear hA
  have HSZ := hide hsz
  clear hi hl hsz
  by_cases hct : c = t
  · subst hct
    obtain rfl : m = 0 := by omega
    go_enter Tryd.func21, Tryd.ntmps21
    go_wp2_with (at_builtin; refine wpList_cat elemBytes rfl (.tmp 29) (.tmp 38) rfl rfl rfl ho (ns := (xs.drop c).take 0) .nil (by simp) (fun _ => rfl) (by simp) (by omega) ?_; intro v2 w2 hown2; rw [List.nil_append] at hown2; obtain ⟨A2, c2, rfl, i2, ⟨a0, a1, a2, b0, b1, b2, fa, fb, z, z0, wa, wb⟩, hbw2⟩ := take_facts HLT.out hown2; have fa1 := fa 1; have fb0 := fb 0; have fb1 := fb 1; have fb2 := fb 2; clear fa fb hown2)
    exact bodyPost_ret (v := .tuple #[.agg #[.slice a n c, .int .i64 c, .int .i64 0], .slice A2 0 c2]) (by simp [results, Tryd.results21, go_sem, *]) rfl
      ⟨A2, c2, by rw [HLT.out]; rfl, ints_four i2 wa wb (by omega) (by intro z; simp) (by intro z; simp) _ _ _ _, (by repeat (first | exact hbw2 | refine Below.setCell ?_ (by simp) _))⟩
  · go_enter Tryd.func21, Tryd.ntmps21
    go_wp2_with (at_builtin; refine wpList_cat elemBytes rfl (.tmp 29) (.tmp 38) rfl rfl rfl ho ((hi2.drop t).take m) (by rw [HLT.out]; omega) (fun h => by have := HA.out (by simpa using h); omega) (by simp; omega) (by omega) ?_; intro v2 w2 hown2; rw [List.nil_append] at hown2; obtain ⟨A2, c2, rfl, i2, ⟨a0, a1, a2, b0, b1, b2, fa, fb, z, z0, wa, wb⟩, hbw2⟩ := take_facts HLT.out hown2; have fa1 := fa 1; have fb0 := fb 0; have fb1 := fb 1; have fb2 := fb 2; clear fa fb hown2)
    exact bodyPost_ret (v := .tuple #[.agg #[.slice a n c, .int .i64 ((t : Int) + (m : Int)), .int .i64 0], .slice A2 m c2]) (by simp [results, Tryd.results21, go_sem, *]) rfl
      ⟨A2, c2, by rw [HLT.out]; rfl, ints_four i2 wa wb (by omega) (by intro z; simp) (by intro z; simp) _ _ _ _, (by repeat (first | exact hbw2 | refine Below.setCell ?_ (by simp) _))⟩
theorem right_CelB {c : Cel} (h : rightC c = true) : CelB c := by
  obtain ⟨-, hf⟩ := right_facts h
  unfold CelB R32
  rcases hf with ⟨q, h1, h2, h3⟩ | ⟨q, h1, -, h2, h3⟩
  · rw [h1, h2, h3, q]; decide
  · omega
theorem all_LB {cs : List Cel} (h : cs.all rightC = true) : LB cs := fun i hi => right_CelB (List.all_eq_true.1 h _ (List.mem_of_getElem? (get_cAt cs i hi)))
theorem take_LB {xs : List Int} {s : Nat × Int} (hb : Byte xs) : LB (takeD xs s).2 ∧ (takeD xs s).2.length ≤ 512 := by
  by_cases q : (takeD xs s).1.2 = 0
  · obtain ⟨-, h1, h2, -⟩ := take_back hb q
    exact ⟨all_LB h2, h1⟩
  · have : (takeD xs s).2 = [] := by
      unfold takeD at q ⊢
      simp only at q ⊢
      split at q
      · rename_i h; exact absurd h q
      · rename_i h; rw [if_neg h]
    rw [this]
    exact ⟨fun i hi => absurd hi (by simp), by simp⟩
theorem parse_LB {xs : List Int} (hb : Byte xs) : LB (parseD xs).1 ∧ (parseD xs).1.length ≤ 512 := by
  unfold parseD
  simp only
  split
  · exact take_LB hb
  · exact ⟨fun i hi => absurd hi (by simp), by simp⟩
theorem ntake_s (g : Nat) (xs : List Int) (m : Nat) (w : World) (h : RdS w g xs (0, 0)) (hl : xs.length ≤ 1000000) (hm : m ≤ xs.length) :
    Calls Tryd.prog 20 #[.pointer (some ⟨g, 0, none⟩), .int .i64 m] w fun e w' => ∃ v, e = .returned v ∧ Only g w w' ∧ RdS w' g xs (m, 0) := by
  obtain ⟨t, h1, h2, h3⟩ := h
  obtain rfl : t = 0 := h3 rfl
  refine (take_ok g _ _ m w h2 (by simpa using hl) (by simpa using hm) (by omega) (by omega)).mono ?_
  rintro e w' ⟨A, c, he, -, ho, hr⟩
  refine ⟨_, he, ho, m, hm, ?_, fun _ => rfl⟩
  simpa using hr
theorem Only.fresh {g : Nat} {w w1 w2 : World} (ho : Only g w1 w2) (hg : w.heap.size ≤ g) (hb : Below w.heap.size w w1) : Below w.heap.size w w2 := only_fresh hb ho hg
end
end Go.Proofs.YtkondkmfknbfjaaDoor
