/-
  The contracts once more, as the laws' walks want them; numbers that fit stay so.
-/
import Derived.Test.YtdeoeihbmdgipaaDoorLKnown
namespace Go.Proofs.YtdeoeihbmdgipaaDoor
open Go.ChangeShapes Go.WideShapes Go.ChangeAt Go.RowKit
set_option linter.unusedVariables false

/-! ### numbers that fit -/
theorem celB_blank (p : Pn) : CelB (blankC p) := ⟨by show R32 32; unfold R32; omega, r32_0, r32_0, by show 1 < 256; omega⟩
theorem celB_rest (c : Cel) : CelB (restC c) := ⟨r32_0, r32_0, r32_0, by show 0 < 256; omega⟩
theorem LB_tab {n : Nat} {f : Nat → Cel} (h : ∀ i, i < n → CelB (f i)) : LB (tab n f) := by
  intro i hi
  rw [tab_len] at hi
  rw [tab_cAt n f i hi]
  exact h i hi
theorem LB_mend {cs : List Cel} (h : LB cs) : LB (mendC cs) := by
  refine LB_tab fun i hi => ?_
  unfold mendAt
  split
  · exact celB_blank _
  · exact h i hi
theorem LB_new (n : Int) : LB (newC n) := LB_tab fun i hi => celB_blank _
theorem LB_put {cs : List Cel} {a : Int} {c : Cel} (h : LB cs) (hc : CelB c) : LB (putC cs a c) := by
  unfold putC
  split
  · refine LB_mend (LB_tab fun i hi => ?_)
    split
    · exact hc
    · split
      · exact celB_rest _
      · exact h i hi
  · exact h
theorem LB_erase {cs : List Cel} {x y : Int} {p : Pn} (h : LB cs) : LB (eraseC cs x y p) := by
  refine LB_mend (LB_tab fun i hi => ?_)
  split
  · exact celB_blank _
  · exact h i hi
theorem LB_fit {cs : List Cel} {x : Int} (h : LB cs) : LB (fitC cs x) := by
  refine LB_mend (LB_tab fun i hi => ?_)
  split
  · rename_i q; exact h i q
  · exact celB_blank _
theorem celB_mark {c : Cel} {r : Int} (h : CelB c) (hr : R32 r) : CelB (markC c r).1 := by
  obtain ⟨r0, m0, n0, d0, p0⟩ := c
  obtain ⟨h1, h2, h3, h4⟩ := h
  obtain ⟨⟨⟨r1, m1, n1, d1, p1⟩, ok⟩, hm⟩ : ∃ q, markC ⟨r0, m0, n0, d0, p0⟩ r = q := ⟨_, rfl⟩
  rw [hm]
  exact mark_r32 hr h1 h2 h3 h4 hm
theorem LB_mark {cs : List Cel} {a r : Int} (h : LB cs) (hr : R32 r) : LB (lmarkC cs a r).1 := by
  unfold lmarkC
  split
  · rename_i hin
    rw [set_tab]
    refine LB_tab fun i hi => ?_
    split
    · refine celB_mark (h _ ?_) hr
      unfold mkAt; split <;> omega
    · exact h i hi
  · exact h
theorem lmark_len (cs : List Cel) (a r : Int) : (lmarkC cs a r).1.length = cs.length := by
  unfold lmarkC; split
  · simp
  · rfl

/-! ### the contracts -/
/-- The call gave this line of n cells, wherever it lies; all that was there is left. -/
def LineN (k : IntKind) (n : Nat) (X : List Cel) (w : World) (e : Ending) (w' : World) : Prop := ∃ A c, e = .returned (.slice A n c) ∧ Cels k w' A X ∧ Below w.heap.size w w'
/-- .. and told whether. -/
def LineN2 (k : IntKind) (n : Nat) (X : List Cel) (ok : Bool) (w : World) (e : Ending) (w' : World) : Prop := ∃ A c, e = .returned (.tuple #[.slice A n c, .bool ok]) ∧ Cels k w' A X ∧ Below w.heap.size w w'
theorem Lined.line {cs : List Cel} {n : Nat} {w : World} {e : Ending} {w' : World} (h : Lined cs w e w') (hn : cs.length = n) : LineN .i32 n cs w e w' := by
  obtain ⟨g, rfl, -, hw, hb⟩ := h
  subst hn
  exact ⟨_, _, rfl, hw.cels, hb⟩
theorem Lined2.line {cs : List Cel} {ok : Bool} {n : Nat} {w : World} {e : Ending} {w' : World} (h : Lined2 cs ok w e w') (hn : cs.length = n) : LineN2 .i32 n cs ok w e w' := by
  obtain ⟨g, rfl, -, hw, hb⟩ := h
  subst hn
  exact ⟨_, _, rfl, hw.cels, hb⟩
theorem LineV2.line {k : IntKind} {cs : List Cel} {ok : Bool} {n : Nat} {w : World} {e : Ending} {w' : World} (h : LineV2 k cs ok w e w') (hn : cs.length = n) : LineN2 k n cs ok w e w' := by
  obtain ⟨A, c, rfl, hc, hb⟩ := h
  subst hn
  exact ⟨_, _, rfl, hc, hb⟩
theorem MadeC.line {t : TypeId} {k : IntKind} {cs : List Cel} {n : Nat} {w : World} {e : Ending} {w' : World} (h : MadeC t k w cs e w') (hn : cs.length = n) : LineN k n cs w e w' := by
  obtain ⟨v, rfl, ho⟩ := h
  obtain ⟨A, c, rfl, hc, -⟩ := ho.form
  subst hn
  exact ⟨_, _, rfl, hc, ho.bel⟩
section
variable {A C : Option Addr} {n c m d : Nat} {cs xs ys : List Cel} {w : World}
/-- A line that came in, cut: it has an address wherever it has room. -/
theorem lcut_v {X : List Cel} (h : Cels .i32 w A cs) (hn : n ≤ cs.length) (hc : A = none → c = 0) (hnc : n ≤ c) (hX : cs.take (min n 30) = X) : Calls Tryd.prog 7 #[.slice A n c] w (LineN .i32 X.length X w) := by
  refine (lcut_any A n c cs w h hn hc hnc).mono fun e w' q => ?_
  rw [hX] at q
  exact q.line rfl
/-- A line as the document's: it has an address wherever it has room. -/
theorem lineof_v (h : Cels .i32 w A cs) (hn : cs.length = n) (hl : n ≤ 1000000) (hb : LB cs) : Calls Tryd.prog 8 #[.slice A n c] w fun e w' => ∃ A' c', e = .returned (.slice A' n c') ∧ Cels .i64 w' A' cs ∧ Below w.heap.size w w' ∧ (A' = none → c' = 0) := by
  refine (lineof_any A n c cs w h hn hl hb).mono ?_
  rintro e w' ⟨v, rfl, ho⟩
  obtain ⟨A', c', rfl, hc, -, hz, -⟩ := ho.form
  subst hn
  exact ⟨_, _, rfl, hc, ho.bel, hz⟩
theorem put_v (at_ : Int) (r q x : Int) (d' f g b : Nat) (ha : -9223372036854775808 ≤ at_ ∧ at_ < 9223372036854775808) {X : List Cel} {ok : Bool} (hX : putC cs at_ ⟨r, q, x, d', ⟨f, g, b⟩⟩ = X) (hok : putOk cs at_ ⟨r, q, x, d', ⟨f, g, b⟩⟩ = ok) (h : Cels .i32 w A cs) (hn : cs.length = n) (hl : n ≤ 1000000) (hd : d' < 256) (hS : Spans w) :
    Calls Tryd.prog 9 #[.slice A n c, .int .i64 at_, .agg #[.int .i32 r, .int .i32 q, .int .i32 x, .int .u8 (d' : Int), .int .u8 (f : Int), .int .u8 (g : Int), .int .u8 (b : Int)]] w (LineN2 .i32 n X ok w) := by
  subst hX hok
  exact (put_any A n c at_ r q x d' f g b hd cs w h hn hl hS ha).mono fun e w' q => q.line (by rw [put_len, hn])
theorem rput_v (at_ : Int) (r q x : Int) (d' f g b : Nat) (ha : -9223372036854775808 ≤ at_ ∧ at_ < 9223372036854775808) {X : List Cel} {ok : Bool} (hX : putC cs at_ ⟨r, q, x, d', ⟨f, g, b⟩⟩ = X) (hok : putOk cs at_ ⟨r, q, x, d', ⟨f, g, b⟩⟩ = ok) (h : Cels .i64 w A cs) (hn : cs.length = n) (hl : n ≤ 1000000) (hd : d' < 256) :
    Calls Tryd.prog 10 #[.slice A n c, .int .i64 at_, .agg #[.int .i64 r, .int .i64 q, .int .i64 x, .int .u8 (d' : Int), .int .u8 (f : Int), .int .u8 (g : Int), .int .u8 (b : Int)]] w (LineN2 .i64 n X ok w) := by
  subst hX hok
  exact (rput_any A n c at_ r q x d' f g b hd cs w h hn hl ha).mono fun e w' q => q.line (by rw [put_len, hn])
theorem lmark_v (at_ x : Int) {X : List Cel} {ok : Bool} (hX : lmarkC cs at_ x = (X, ok)) (h : Cels .i32 w A cs) (hn : cs.length = n) (hl : n ≤ 1000000) (hS : Spans w) :
    Calls Tryd.prog 12 #[.slice A n c, .int .i64 at_, .int .i32 x] w (LineN2 .i32 n X ok w) := by
  refine (lmark_any A n c at_ x cs w h hn hl hS).mono fun e w' q => ?_
  have := q.line (n := n) (by rw [lmark_len, hn])
  rwa [hX] at this
theorem rlmark_v (at_ x : Int) {X : List Cel} {ok : Bool} (hX : lmarkC cs at_ x = (X, ok)) (h : Cels .i64 w A cs) (hn : cs.length = n) (hl : n ≤ 1000000) (hA : A = none → c = 0) :
    Calls Tryd.prog 13 #[.slice A n c, .int .i64 at_, .int .i64 x] w (LineN2 .i64 n X ok w) := by
  refine (rlmark_any A n c at_ x cs w h hn hl hA).mono fun e w' q => ?_
  have := q.line (n := n) (by rw [lmark_len, hn])
  rwa [hX] at this
theorem erase_v (x y : Int) (f g b : Nat) {X : List Cel} (hX : eraseC cs x y ⟨f, g, b⟩ = X) (h : Cels .i32 w A cs) (hn : cs.length = n) (hl : n ≤ 1000000) : Calls Tryd.prog 16 #[.slice A n c, .int .i64 x, .int .i64 y, .agg #[.int .u8 (f : Int), .int .u8 (g : Int), .int .u8 (b : Int)]] w (LineN .i32 n X w) := by
  subst hX
  exact (erase_any A n c x y f g b cs w h hn hl).mono fun e w' q => q.line (by rw [erase_len, hn])
theorem rerase_v (x y : Int) (f g b : Nat) {X : List Cel} (hX : eraseC cs x y ⟨f, g, b⟩ = X) (h : Cels .i64 w A cs) (hn : cs.length = n) (hl : n ≤ 1000000) : Calls Tryd.prog 17 #[.slice A n c, .int .i64 x, .int .i64 y, .agg #[.int .u8 (f : Int), .int .u8 (g : Int), .int .u8 (b : Int)]] w (LineN .i64 n X w) := by
  subst hX
  exact (rerase_any A n c x y f g b cs w h hn hl).mono fun e w' q => q.line (by rw [erase_len, hn])
theorem fit_v (x : Int) {N : Nat} {X : List Cel} (hX : fitC cs x = X) (hN : lenN x = N) (h : Cels .i32 w A cs) (hn : cs.length = n) : Calls Tryd.prog 18 #[.slice A n c, .int .i64 x] w (LineN .i32 N X w) := by
  subst hX
  exact (lfit_any A n c x cs w h hn).mono fun e w' q => q.line (by rw [fit_len, hN])
theorem rfit_v (x : Int) {N : Nat} {X : List Cel} (hX : fitC cs x = X) (hN : lenN x = N) (h : Cels .i64 w A cs) (hn : cs.length = n) (hl : n ≤ 1000000) : Calls Tryd.prog 19 #[.slice A n c, .int .i64 x] w (LineN .i64 N X w) := by
  subst hX
  exact (rlfit_any A n c x cs w h hn hl).mono fun e w' q => q.line (by rw [fit_len, hN])
theorem mend_v {X : List Cel} (hX : mendC cs = X) (h : Cels .i32 w A cs) (hn : cs.length = n) (hl : n ≤ 1000000) : Calls Tryd.prog 20 #[.slice A n c] w (LineN .i32 n X w) := by
  subst hX
  exact (mend_any A n c cs w h hn hl).mono fun e w' q => q.line (by rw [mend_len, hn])
theorem rmend_v {X : List Cel} (hX : mendC cs = X) (h : Cels .i64 w A cs) (hn : cs.length = n) (hl : n ≤ 1000000) : Calls Tryd.prog 21 #[.slice A n c] w (LineN .i64 n X w) := by
  subst hX
  exact (rmend_any A n c cs w h hn hl).mono fun e w' q => q.line (by rw [mend_len, hn])
theorem new_v (x : Int) {N : Nat} {X : List Cel} (hX : newC x = X) (hN : lenN x = N) (w : World) : Calls Tryd.prog 22 #[.int .i64 x] w (LineN .i32 N X w) := by
  subst hX
  exact (new_any x w).mono fun e w' q => q.line (by rw [new_len, hN])
theorem rnew_v (x : Int) {N : Nat} {X : List Cel} (hX : newC x = X) (hN : lenN x = N) (w : World) : Calls Tryd.prog 23 #[.int .i64 x] w (LineN .i64 N X w) := by
  subst hX
  exact (rnew_any x w).mono fun e w' q => q.line (by rw [new_len, hN])
theorem lsame_v {X : List Cel} (ha : Cels .i32 w A X) (hb : Cels .i64 w C X) (hn : X.length = n) (hl : n ≤ 1000000) (hlb : LB X) : Calls Tryd.prog 15 #[.slice A n c, .slice C n d] w (Said true w) := by
  have := lsame_any A C n c n d X X w ha hb hn hn hl hlb
  simpa using this
theorem same6_v {X : List Cel} (ha : Cels .i32 w A X) (hb : Cels .i32 w C X) (hn : X.length = n) (hl : n ≤ 1000000) : Calls Tryd.prog 26 #[.slice A n c, .slice C n d] w (Said true w) := by
  have := same6_any A C n c n d X X w ha hb hn hn hl
  simpa using this
end
end Go.Proofs.YtdeoeihbmdgipaaDoor
