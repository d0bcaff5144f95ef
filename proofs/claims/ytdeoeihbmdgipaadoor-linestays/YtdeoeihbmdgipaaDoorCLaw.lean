/-
  The contracts once more, their answers spelled out, as the laws' walks want them; what is of 32 bits stays so.
-/
import Derived.Test.YtdeoeihbmdgipaaDoorCKnown
import Derived.Test.YtdeoeihbmdgipaaDoorCRMark
import Derived.Test.YtdeoeihbmdgipaaDoorCRRunes
import Derived.Test.YtdeoeihbmdgipaaDoorOpens
namespace Go.Proofs.YtdeoeihbmdgipaaDoor
open Go.ChangeShapes Go.WideShapes Go.ChangeAt Go.RowKit
set_option linter.unusedVariables false

/-- The call answered with this value, and left all that was there. -/
def Gave (v : Value) (w : World) (e : Ending) (w' : World) : Prop := e = .returned v ∧ Below w.heap.size w w'
theorem lof_v (r m n : Int) (d f g b : Nat) (hr : R32 r) (hm : R32 m) (hn : R32 n) (w : World) : Calls Tryd.prog 11 #[.agg #[.int .i32 r, .int .i32 m, .int .i32 n, .int .u8 (d : Int), .int .u8 (f : Int), .int .u8 (g : Int), .int .u8 (b : Int)]] w (Gave (.agg #[.int .i64 r, .int .i64 m, .int .i64 n, .int .u8 (d : Int), .int .u8 (f : Int), .int .u8 (g : Int), .int .u8 (b : Int)]) w) := lof_any r m n d f g b hr hm hn w
theorem blank_v (f g b : Nat) (w : World) : Calls Tryd.prog 44 #[.agg #[.int .u8 (f : Int), .int .u8 (g : Int), .int .u8 (b : Int)]] w (Gave (.agg #[.int .i32 32, .int .i32 0, .int .i32 0, .int .u8 (1 : Int), .int .u8 (f : Int), .int .u8 (g : Int), .int .u8 (b : Int)]) w) := blank_any f g b w
theorem rblank_v (f g b : Nat) (w : World) : Calls Tryd.prog 47 #[.agg #[.int .u8 (f : Int), .int .u8 (g : Int), .int .u8 (b : Int)]] w (Gave (.agg #[.int .i64 32, .int .i64 0, .int .i64 0, .int .u8 (1 : Int), .int .u8 (f : Int), .int .u8 (g : Int), .int .u8 (b : Int)]) w) := rblank_any f g b w
theorem rest_v (r m n : Int) (d f g b : Nat) (w : World) : Calls Tryd.prog 36 #[.agg #[.int .i32 r, .int .i32 m, .int .i32 n, .int .u8 (d : Int), .int .u8 (f : Int), .int .u8 (g : Int), .int .u8 (b : Int)]] w (Gave (.agg #[.int .i32 0, .int .i32 0, .int .i32 0, .int .u8 (0 : Int), .int .u8 (f : Int), .int .u8 (g : Int), .int .u8 (b : Int)]) w) := rest_any r m n d f g b w
theorem rrest_v (r m n : Int) (d f g b : Nat) (w : World) : Calls Tryd.prog 39 #[.agg #[.int .i64 r, .int .i64 m, .int .i64 n, .int .u8 (d : Int), .int .u8 (f : Int), .int .u8 (g : Int), .int .u8 (b : Int)]] w (Gave (.agg #[.int .i64 0, .int .i64 0, .int .i64 0, .int .u8 (0 : Int), .int .u8 (f : Int), .int .u8 (g : Int), .int .u8 (b : Int)]) w) := rrest_any r m n d f g b w
theorem lof_b (f g b : Nat) (w : World) : Calls Tryd.prog 11 #[.agg #[.int .i32 32, .int .i32 0, .int .i32 0, .int .u8 (1 : Int), .int .u8 (f : Int), .int .u8 (g : Int), .int .u8 (b : Int)]] w (Gave (.agg #[.int .i64 32, .int .i64 0, .int .i64 0, .int .u8 (1 : Int), .int .u8 (f : Int), .int .u8 (g : Int), .int .u8 (b : Int)]) w) := lof_any 32 0 0 1 f g b (by unfold R32; omega) (by unfold R32; omega) (by unfold R32; omega) w
theorem lof_0 (f g b : Nat) (w : World) : Calls Tryd.prog 11 #[.agg #[.int .i32 0, .int .i32 0, .int .i32 0, .int .u8 (0 : Int), .int .u8 (f : Int), .int .u8 (g : Int), .int .u8 (b : Int)]] w (Gave (.agg #[.int .i64 0, .int .i64 0, .int .i64 0, .int .u8 (0 : Int), .int .u8 (f : Int), .int .u8 (g : Int), .int .u8 (b : Int)]) w) := lof_any 0 0 0 0 f g b (by unfold R32; omega) (by unfold R32; omega) (by unfold R32; omega) w
theorem cof_v (x : Int) (F G B : Nat) (r m n : Int) (d f g b : Nat) (ok : Bool) (h : ofC x ⟨F, G, B⟩ = (⟨r, m, n, d, ⟨f, g, b⟩⟩, ok)) (w : World) (hS : Spans w) : Calls Tryd.prog 43 #[.int .i32 x, .agg #[.int .u8 (F : Int), .int .u8 (G : Int), .int .u8 (B : Int)]] w (Gave (.tuple #[.agg #[.int .i32 r, .int .i32 m, .int .i32 n, .int .u8 (d : Int), .int .u8 (f : Int), .int .u8 (g : Int), .int .u8 (b : Int)], .bool ok]) w) := by
  have := cof_any x F G B w hS
  rw [h] at this
  exact this
theorem cmark_v (r m n : Int) (d f g b : Nat) (x : Int) (r' m' n' : Int) (d' f' g' b' : Nat) (ok : Bool) (h : markC ⟨r, m, n, d, ⟨f, g, b⟩⟩ x = (⟨r', m', n', d', ⟨f', g', b'⟩⟩, ok)) (w : World) (hS : Spans w) : Calls Tryd.prog 41 #[.agg #[.int .i32 r, .int .i32 m, .int .i32 n, .int .u8 (d : Int), .int .u8 (f : Int), .int .u8 (g : Int), .int .u8 (b : Int)], .int .i32 x] w (Gave (.tuple #[.agg #[.int .i32 r', .int .i32 m', .int .i32 n', .int .u8 (d' : Int), .int .u8 (f' : Int), .int .u8 (g' : Int), .int .u8 (b' : Int)], .bool ok]) w) := by
  have := cmark_any r m n d f g b x w hS
  rw [h] at this
  exact this
theorem rcmark_v (r m n : Int) (d f g b : Nat) (x : Int) (r' m' n' : Int) (d' f' g' b' : Nat) (ok : Bool) (h : markC ⟨r, m, n, d, ⟨f, g, b⟩⟩ x = (⟨r', m', n', d', ⟨f', g', b'⟩⟩, ok)) (w : World) : Calls Tryd.prog 42 #[.agg #[.int .i64 r, .int .i64 m, .int .i64 n, .int .u8 (d : Int), .int .u8 (f : Int), .int .u8 (g : Int), .int .u8 (b : Int)], .int .i64 x] w (Gave (.tuple #[.agg #[.int .i64 r', .int .i64 m', .int .i64 n', .int .u8 (d' : Int), .int .u8 (f' : Int), .int .u8 (g' : Int), .int .u8 (b' : Int)], .bool ok]) w) := by
  have := rcmark_any r m n d f g b x w
  rw [h] at this
  exact this
theorem r32_0 : R32 0 := by unfold R32; omega
theorem of_r32 {x : Int} {p : Pn} {r m n : Int} {d : Nat} {q : Pn} {ok : Bool} (hx : R32 x) (h : ofC x p = (⟨r, m, n, d, q⟩, ok)) : R32 r ∧ R32 m ∧ R32 n ∧ d < 256 := by
  unfold ofC at h
  split at h
  · cases h; exact ⟨hx, r32_0, r32_0, by omega⟩
  · split at h
    · cases h; exact ⟨hx, r32_0, r32_0, by omega⟩
    · cases h; exact ⟨r32_0, r32_0, r32_0, by omega⟩
theorem mark_r32 {x r m n : Int} {d : Nat} {p : Pn} {r' m' n' : Int} {d' : Nat} {q : Pn} {ok : Bool} (hx : R32 x) (hr : R32 r) (hm : R32 m) (hn : R32 n) (hd : d < 256) (h : markC ⟨r, m, n, d, p⟩ x = (⟨r', m', n', d', q⟩, ok)) : R32 r' ∧ R32 m' ∧ R32 n' ∧ d' < 256 := by
  unfold markC at h
  split at h
  · split at h
    · cases h; exact ⟨hr, hx, hn, hd⟩
    · split at h
      · cases h; exact ⟨hr, hm, hx, hd⟩
      · cases h; exact ⟨hr, hm, hn, hd⟩
  · cases h; exact ⟨hr, hm, hn, hd⟩
theorem cells3 {w : World} {q : Nat} {t : TypeId} {x0 x1 x2 : Value} (h : Whole w q t [x0, x1, x2]) : w.cell? ⟨q, 0, none⟩ = some x0 ∧ w.cell? ⟨q, 1, none⟩ = some x1 ∧ w.cell? ⟨q, 2, none⟩ = some x2 ∧ q < w.heap.size := ⟨h.cell 0, h.cell 1, h.cell 2, h.lt⟩
theorem alike_with (r m n : Int) (d f g b F G B : Nat) : alikeC ⟨r, m, n, d, ⟨F, G, B⟩⟩ ⟨r, m, n, d, ⟨f, g, b⟩⟩ = true := by unfold alikeC; simp
theorem i32_R {a : Int} (h : (Lit.int .i32 a).wf = true) : R32 a := by
  have : -2147483648 ≤ a ∧ a ≤ 2147483647 := by simpa [Lit.wf, IntKind.min, IntKind.max, IntKind.signed, IntKind.bits] using h
  exact this
end Go.Proofs.YtdeoeihbmdgipaaDoor
