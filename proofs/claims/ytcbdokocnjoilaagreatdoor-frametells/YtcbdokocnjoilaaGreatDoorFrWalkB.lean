/-
  Words of the laws' walks: a frame's bytes are bytes, and few; zero frames.
-/
import Derived.Test.YtcbdokocnjoilaaGreatDoorFrParse
import Derived.Test.YtcbdokocnjoilaaGreatDoorFrBytes
import Derived.Test.YtcbdokocnjoilaaGreatDoorFrKnown
import Derived.Test.YtcbdokocnjoilaaGreatDoorFrSame
import Derived.Test.YtcbdokocnjoilaaGreatDoorFrLaw
import Derived.Test.YtcbdokocnjoilaaGreatDoorH20
namespace Go.Proofs.YtcbdokocnjoilaaGreatDoor
set_option maxRecDepth 100000
open Go.ChangeShapes Go.WideShapes Go.ChangeAt Go.RowKit
set_option linter.unusedVariables false

theorem bytesFm_byte {f : Fm} (hok : FmOk f) (hd : checkDe f.d = 0) : Byte (bytesFm f) := by
  obtain ⟨a, ha, ha2⟩ := u64_nat hok.num
  obtain ⟨b, hb, hb2⟩ := u64_nat hok.base
  obtain ⟨c, hc, hc2⟩ := u64_nat hok.echo
  obtain ⟨e, he, he2⟩ := u64_nat hok.stamp
  unfold bytesFm
  rw [ha, hb, hc, he]
  simp only [Int.toNat_natCast]
  have h := bytes_app (encN_byte a ha2) (bytes_app (encN_byte b hb2) (bytes_app (encN_byte c hc2) (bytes_app (encN_byte e he2) (bytesDe_byte hd))))
  intro x hx
  rcases List.mem_cons.1 hx with rfl | hx
  · decide
  · exact h x hx
theorem bytesFm_len {f : Fm} (h : (bytesSs f.d.ss).length ≤ 30000) : (bytesFm f).length ≤ 31000 := by
  unfold bytesFm
  have h1 := headB_len f.d
  have a := (enc_len f.num.toNat).2
  have b := (enc_len f.base.toNat).2
  have c := (enc_len f.echo.toNat).2
  have d := (enc_len f.stamp.toNat).2
  rw [bytesDe_head]
  simp only [List.length_cons, List.length_append]
  omega
theorem bytesFm_pos (f : Fm) : 1 ≤ (bytesFm f).length := by unfold bytesFm; simp
theorem fm_self (x : Fm) : decide (x = x) = true := decide_eq_true rfl
theorem zfsame_any (A : Option Addr) (c : Nat) (w : World) : Calls Tryz.prog 9 #[.agg #[.int .u64 0, .int .u64 0, .int .u64 0, .int .u64 0, .int .i64 0, .int .i64 0, .int .i64 0, .int .i64 0, .slice A 0 c], .agg #[.int .u64 0, .int .u64 0, .int .u64 0, .int .u64 0, .int .i64 0, .int .i64 0, .int .i64 0, .int .i64 0, .slice none 0 0]] w (Said true w) := by
  have h := frsame_any 0 0 68 105 68 105 zeroFm zeroFm A none 0 0 c 0 w .nil .nil (Nat.zero_le _) (Nat.zero_le _) rfl rfl (by omega) (fun s hs => by cases hs)
  rw [fm_self] at h
  exact h
theorem parsefs_zero {w w' : World} {e : Ending} {v : Int} (h : ParseFS w (zeroFm, v) e w') : ∃ A c, e = .returned (.tuple #[.agg #[.int .u64 0, .int .u64 0, .int .u64 0, .int .u64 0, .int .i64 0, .int .i64 0, .int .i64 0, .int .i64 0, .slice A 0 c], .int .i64 v]) ∧ Below w.heap.size w w' := by
  obtain ⟨A, c, he, -, hb⟩ := h
  exact ⟨A, c, he, hb⟩
end Go.Proofs.YtcbdokocnjoilaaGreatDoor
