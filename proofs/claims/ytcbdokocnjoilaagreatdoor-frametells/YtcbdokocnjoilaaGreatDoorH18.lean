/-
  Contracts and plain mathematics of DeMath, DeCut, DeTake1, DeTake2.
-/
import Derived.Test.YtcbdokocnjoilaaGreatDoorH2
import Derived.Test.YtcbdokocnjoilaaGreatDoorH12
import Derived.Test.YtcbdokocnjoilaaGreatDoorH13
import Derived.Test.YtcbdokocnjoilaaGreatDoorH17
namespace Go.Proofs.YtcbdokocnjoilaaGreatDoor
set_option maxRecDepth 100000
set_option linter.unusedVariables false
set_option maxHeartbeats 8000000
/-! ### told -/
def bytesS (s : Sp) : List Int := enc s.row.toNat ++ (enc s.col.toNat ++ bytesR s.cs)
def bytesSs (ss : List Sp) : List Int := ss.flatMap bytesS
def bytesDe (d : Df) : List Int := enc d.rows.toNat ++ (enc d.cols.toNat ++ (enc d.row.toNat ++ (enc d.col.toNat ++ (enc d.ss.length ++ bytesSs d.ss))))
/-- What is wrong with a difference that is to be told. -/
def checkDe (d : Df) : Int := if checkD d = 0 then errTo (fun i => checkR (sAt d.ss i).cs) d.ss.length else checkD d
/-! ### read -/
def spanD (xs : List Int) (s : Nat × Int) : (Nat × Int) × Sp :=
  let r := upD xs s 512 5
  let c := upD xs r.1 512 5
  let t := takeD xs c.1
  (t.1, ⟨r.2, c.2, t.2⟩)
def dloopD (xs : List Int) (s : Nat × Int) : Nat → (Nat × Int) × List Sp
  | 0 => (s, [])
  | i + 1 => if (dloopD xs s i).1.2 = 0 then ((spanD xs (dloopD xs s i).1).1, (dloopD xs s i).2 ++ [(spanD xs (dloopD xs s i).1).2]) else dloopD xs s i
def zeroD : Df := ⟨0, 0, 0, 0, []⟩
/-- What was read, ahead of Check. -/
def rawD (xs : List Int) (s : Nat × Int) : (Nat × Int) × Df :=
  let a := upD xs s 512 5
  let b := upD xs a.1 512 5
  let c := upD xs b.1 512 5
  let e := upD xs c.1 512 5
  let n := upD xs e.1 512 6
  let l := dloopD xs n.1 n.2.toNat
  (l.1, ⟨a.2, b.2, c.2, e.2, l.2⟩)
def takeDe (xs : List Int) (s : Nat × Int) : (Nat × Int) × Df :=
  let l := rawD xs s
  let E := if l.1.2 = 0 then checkD l.2 else l.1.2
  ((l.1.1, E), if E = 0 then l.2 else zeroD)
def parseDe (xs : List Int) : Df × Int :=
  let b := takeDe xs (0, 0)
  if dVal xs b.1.1 b.1.2 = 0 then (b.2, 0) else (zeroD, dVal xs b.1.1 b.1.2)

/-! ### what may be told -/
structure SpFine (s : Sp) : Prop where
  row : ∃ r : Nat, s.row = r ∧ r ≤ 512
  col : ∃ c : Nat, s.col = c ∧ c ≤ 512
  len : s.cs.length ≤ 512
  right : s.cs.all rightC = true
structure DfFine (d : Df) : Prop where
  rows : ∃ r : Nat, d.rows = r ∧ r ≤ 512
  cols : ∃ r : Nat, d.cols = r ∧ r ≤ 512
  row : ∃ r : Nat, d.row = r ∧ r ≤ 512
  col : ∃ r : Nat, d.col = r ∧ r ≤ 512
  many : d.ss.length ≤ 512
  each : ∀ s ∈ d.ss, SpFine s
theorem sAt_mem (ss : List Sp) {s : Sp} (h : s ∈ ss) : ∃ i, i < ss.length ∧ sAt ss i = s := by
  obtain ⟨i, hi, e⟩ := List.getElem_of_mem h
  refine ⟨i, hi, ?_⟩
  unfold sAt
  rw [List.getD_eq_getElem?_getD, List.getElem?_eq_getElem hi]
  exact e
theorem rows_up {R C : Int} {ss : List Sp} (h : ∀ i, i < ss.length → spE R C ss i = 0) : ∀ i, i < ss.length → (i : Int) ≤ (sAt ss i).row ∧ (sAt ss i).row < R ∧ 0 ≤ (sAt ss i).col ∧ (sAt ss i).col < C ∧ ((sAt ss i).cs.length : Int) ≤ C := by
  intro i
  induction i with
  | zero =>
    intro hi
    have := h 0 hi
    unfold spE at this
    split at this
    · cases this
    · split at this
      · cases this
      · omega
  | succ i ih =>
    intro hi
    have h1 := ih (by omega)
    have := h (i + 1) hi
    unfold spE at this
    rw [show i + 1 - 1 = i by omega] at this
    split at this
    · cases this
    · split at this
      · cases this
      · omega
theorem fine_of {d : Df} (h : checkDe d = 0) : checkD d = 0 ∧ DfFine d := by
  unfold checkDe at h
  by_cases hE : checkD d = 0
  · rw [if_pos hE] at h
    refine ⟨hE, ?_⟩
    have hc := errTo_zero h
    unfold checkD at hE
    split at hE
    · cases hE
    · rename_i hs
      split at hE
      · cases hE
      · rename_i hp
        have hs : sizeN d.rows d.cols := Classical.not_not.1 hs
        obtain ⟨⟨h1, h2⟩, h3, h4⟩ := hs
        have hz := errTo_zero hE
        have hu := rows_up hz
        refine ⟨⟨d.rows.toNat, by omega, by omega⟩, ⟨d.cols.toNat, by omega, by omega⟩, ⟨d.row.toNat, by omega, by omega⟩, ⟨d.col.toNat, by omega, by omega⟩, ?_, ?_⟩
        · rcases Nat.eq_zero_or_pos d.ss.length with z | z
          · omega
          · have := hu (d.ss.length - 1) (by omega); omega
        · intro s hs
          obtain ⟨i, hi, rfl⟩ := sAt_mem d.ss hs
          have h5 := hu i hi
          have h6 : checkR (sAt d.ss i).cs = 0 := hc i hi
          unfold checkR at h6
          split at h6
          · cases h6
          · rename_i h7
            split at h6
            · rename_i h8
              exact ⟨⟨(sAt d.ss i).row.toNat, by omega, by omega⟩, ⟨(sAt d.ss i).col.toNat, by omega, by omega⟩, by omega, h8⟩
            · cases h6
  · rw [if_neg hE] at h; exact absurd h hE
theorem fine_check {d : Df} (h : checkD d = 0) (hf : ∀ s ∈ d.ss, s.cs.length ≤ 512 ∧ s.cs.all rightC = true) : checkDe d = 0 := by
  unfold checkDe
  rw [if_pos h]
  refine errTo_of fun i hi => ?_
  have hm : sAt d.ss i ∈ d.ss := by
    unfold sAt
    rw [List.getD_eq_getElem?_getD, List.getElem?_eq_getElem hi]
    exact List.getElem_mem hi
  obtain ⟨h1, h2⟩ := hf _ hm
  show checkR (sAt d.ss i).cs = 0
  unfold checkR
  rw [if_neg (by omega), if_pos h2]

/-! ### what was told is read as it was -/
theorem span_enc {xs ys : List Int} {t : Nat} {s : Sp} (hf : SpFine s) (h : xs.drop t = bytesS s ++ ys) :
    spanD xs (t, 0) = ((t + (bytesS s).length, 0), s) ∧ xs.drop (t + (bytesS s).length) = ys := by
  obtain ⟨⟨r, hr, hr2⟩, ⟨c, hc, hc2⟩, hl, hg⟩ := hf
  obtain ⟨row, col, cs⟩ := s
  simp only at hr hc hl hg
  subst hr hc
  unfold bytesS at h ⊢
  simp only [Int.toNat_natCast, List.append_assoc] at h ⊢
  obtain ⟨h1, h2⟩ := up_enc 512 5 h (by omega) (by omega)
  obtain ⟨h3, h4⟩ := up_enc 512 5 h2 (by omega) (by omega)
  obtain ⟨h5, h6⟩ := take_enc hl hg h4
  simp only [List.length_append, ← Nat.add_assoc]
  refine ⟨?_, h6⟩
  unfold spanD
  simp only [h1, h3, h5]
theorem bytesSs_append (a b : List Sp) : bytesSs (a ++ b) = bytesSs a ++ bytesSs b := by unfold bytesSs; simp
theorem dloop_enc {xs ys : List Int} {t : Nat} (ss : List Sp) (hf : ∀ s ∈ ss, SpFine s) (h : xs.drop t = bytesSs ss ++ ys) :
    ∀ i, i ≤ ss.length → dloopD xs (t, 0) i = ((t + (bytesSs (ss.take i)).length, 0), ss.take i) ∧ xs.drop (t + (bytesSs (ss.take i)).length) = bytesSs (ss.drop i) ++ ys := by
  intro i
  induction i with
  | zero => intro _; exact ⟨rfl, h⟩
  | succ i ih =>
    intro hi
    obtain ⟨h1, h2⟩ := ih (by omega)
    have hlt : i < ss.length := by omega
    obtain ⟨s, hx⟩ : ∃ x, ss[i] = x := ⟨_, rfl⟩
    have e1 : ss.drop i = s :: ss.drop (i + 1) := by rw [List.drop_eq_getElem_cons hlt, hx]
    have e2 : ss.take (i + 1) = ss.take i ++ [s] := by rw [List.take_succ_eq_append_getElem hlt, hx]
    have e4 : bytesSs [s] = bytesS s := by unfold bytesSs; simp
    have e3 : bytesSs (s :: ss.drop (i + 1)) = bytesS s ++ bytesSs (ss.drop (i + 1)) := rfl
    rw [e1, e3, List.append_assoc] at h2
    obtain ⟨h3, h4⟩ := span_enc (hf s (by rw [← hx]; exact List.getElem_mem hlt)) h2
    have e5 : t + (bytesSs (ss.take (i + 1))).length = t + (bytesSs (ss.take i)).length + (bytesS s).length := by rw [e2, bytesSs_append, e4, List.length_append]; omega
    rw [e5]
    refine ⟨?_, h4⟩
    have u : dloopD xs (t, 0) (i + 1) = if (dloopD xs (t, 0) i).1.2 = 0 then ((spanD xs (dloopD xs (t, 0) i).1).1, (dloopD xs (t, 0) i).2 ++ [(spanD xs (dloopD xs (t, 0) i).1).2]) else dloopD xs (t, 0) i := rfl
    rw [u, h1]
    simp only [if_true, h3, e2]
theorem raw_enc {xs ys : List Int} {t : Nat} {d : Df} (hf : DfFine d) (h : xs.drop t = bytesDe d ++ ys) :
    rawD xs (t, 0) = ((t + (bytesDe d).length, 0), d) ∧ xs.drop (t + (bytesDe d).length) = ys := by
  obtain ⟨⟨a, ha, ha2⟩, ⟨b, hb, hb2⟩, ⟨c, hc, hc2⟩, ⟨e, he, he2⟩, hm, hs⟩ := hf
  obtain ⟨rows, cols, row, col, ss⟩ := d
  simp only at ha hb hc he hm hs
  subst ha hb hc he
  unfold bytesDe at h ⊢
  simp only [Int.toNat_natCast, List.append_assoc] at h ⊢
  obtain ⟨h1, h2⟩ := up_enc 512 5 h (by omega) (by omega)
  obtain ⟨h3, h4⟩ := up_enc 512 5 h2 (by omega) (by omega)
  obtain ⟨h5, h6⟩ := up_enc 512 5 h4 (by omega) (by omega)
  obtain ⟨h7, h8⟩ := up_enc 512 5 h6 (by omega) (by omega)
  obtain ⟨h9, h10⟩ := up_enc 512 6 h8 (by omega) (by omega)
  obtain ⟨h11, h12⟩ := dloop_enc ss hs h10 ss.length (Nat.le_refl _)
  rw [List.take_of_length_le (Nat.le_refl _)] at h11 h12
  rw [show ss.drop ss.length = [] from List.drop_eq_nil_of_le (Nat.le_refl _)] at h12
  simp only [List.length_append, ← Nat.add_assoc]
  refine ⟨?_, h12⟩
  unfold rawD
  simp only [h1, h3, h5, h7, h9, Int.toNat_natCast, h11]
/-- What was told is read as it was. -/
theorem takeDe_enc {xs ys : List Int} {t : Nat} {d : Df} (hd : checkDe d = 0) (h : xs.drop t = bytesDe d ++ ys) :
    takeDe xs (t, 0) = ((t + (bytesDe d).length, 0), d) ∧ xs.drop (t + (bytesDe d).length) = ys := by
  obtain ⟨hc, hf⟩ := fine_of hd
  obtain ⟨h1, h2⟩ := raw_enc hf h
  refine ⟨?_, h2⟩
  unfold takeDe
  simp only [h1, hc, if_true]
theorem parseDe_enc {d : Df} (hd : checkDe d = 0) : parseDe (bytesDe d) = (d, 0) := by
  obtain ⟨h1, h2⟩ := takeDe_enc (t := 0) (ys := []) (xs := bytesDe d) hd (by simp)
  unfold parseDe
  have hz : dVal (bytesDe d) (0 + (bytesDe d).length) 0 = 0 := by unfold dVal; rw [if_neg (by omega)]
  simp only [h1, hz, if_true]

/-! ### what was read is told by just these bytes -/
theorem span_back {xs : List Int} {s : Nat × Int} (hb : Byte xs) (h : (spanD xs s).1.2 = 0) :
    s.2 = 0 ∧ SpFine (spanD xs s).2 ∧ xs.drop s.1 = bytesS (spanD xs s).2 ++ xs.drop (spanD xs s).1.1 := by
  unfold spanD at h ⊢
  simp only at h ⊢
  obtain ⟨h1, h2, h3, h4⟩ := take_back hb h
  obtain ⟨h5, C, h6, h7, h8⟩ := up_back hb (by decide) h1
  obtain ⟨h9, R, h10, h11, h12⟩ := up_back hb (by decide) h5
  refine ⟨h9, ⟨⟨R, h10, by omega⟩, ⟨C, h6, by omega⟩, h2, h3⟩, ?_⟩
  unfold bytesS
  simp only [h10, h6, Int.toNat_natCast]
  rw [h12, h8, h4]
  simp only [List.append_assoc]
theorem dloop_back {xs : List Int} {s : Nat × Int} (hb : Byte xs) : ∀ n, (dloopD xs s n).1.2 = 0 → s.2 = 0 ∧ (dloopD xs s n).2.length = n ∧ (∀ x ∈ (dloopD xs s n).2, SpFine x) ∧ xs.drop s.1 = bytesSs (dloopD xs s n).2 ++ xs.drop (dloopD xs s n).1.1 := by
  intro n
  induction n with
  | zero => intro h; exact ⟨h, rfl, (fun x hx => by cases hx), rfl⟩
  | succ n ih =>
    intro h
    have u : dloopD xs s (n + 1) = if (dloopD xs s n).1.2 = 0 then ((spanD xs (dloopD xs s n).1).1, (dloopD xs s n).2 ++ [(spanD xs (dloopD xs s n).1).2]) else dloopD xs s n := rfl
    rw [u] at h ⊢
    by_cases q : (dloopD xs s n).1.2 = 0
    · rw [if_pos q] at h ⊢
      simp only at h ⊢
      obtain ⟨h1, h2, h3, h4⟩ := ih q
      obtain ⟨-, h5, h6⟩ := span_back hb h
      refine ⟨h1, by simp [h2], ?_, ?_⟩
      · intro x hx
        rcases List.mem_append.1 hx with z | z
        · exact h3 x z
        · simp only [List.mem_cons, List.not_mem_nil, or_false] at z; rw [z]; exact h5
      · rw [h4, h6, bytesSs_append, List.append_assoc]; unfold bytesSs; simp
    · rw [if_neg q] at h; exact absurd h q
theorem takeDe_back {xs : List Int} {s : Nat × Int} (hb : Byte xs) (h : (takeDe xs s).1.2 = 0) :
    s.2 = 0 ∧ checkDe (takeDe xs s).2 = 0 ∧ xs.drop s.1 = bytesDe (takeDe xs s).2 ++ xs.drop (takeDe xs s).1.1 := by
  unfold takeDe at h ⊢
  simp only at h ⊢
  rw [if_pos h]
  have q : (rawD xs s).1.2 = 0 := by
    by_cases q : (rawD xs s).1.2 = 0
    · exact q
    · rw [if_neg q] at h; exact absurd h q
  rw [if_pos q] at h
  unfold rawD at q h ⊢
  simp only at q h ⊢
  obtain ⟨h1, h2, h3, h4⟩ := dloop_back hb _ q
  obtain ⟨h5, N, h6, h7, h8⟩ := up_back hb (by decide) h1
  obtain ⟨h9, E, h10, h11, h12⟩ := up_back hb (by decide) h5
  obtain ⟨h13, C, h14, h15, h16⟩ := up_back hb (by decide) h9
  obtain ⟨h17, B, h18, h19, h20⟩ := up_back hb (by decide) h13
  obtain ⟨h21, A, h22, h23, h24⟩ := up_back hb (by decide) h17
  refine ⟨h21, fine_check h (fun s hs => ⟨(h3 s hs).len, (h3 s hs).right⟩), ?_⟩
  rw [h6, Int.toNat_natCast] at h2
  rw [h24, h20, h16, h12, h8, h4]
  unfold bytesDe
  simp only [h22, h18, h14, h10, Int.toNat_natCast, List.append_assoc]
  rw [h6, Int.toNat_natCast] at *
  rw [h2]
/-- What was parsed is told by just these bytes. -/
theorem parseDe_back {xs : List Int} (hb : Byte xs) (h : (parseDe xs).2 = 0) : bytesDe (parseDe xs).1 = xs ∧ checkDe (parseDe xs).1 = 0 := by
  unfold parseDe at h ⊢
  simp only at h ⊢
  by_cases q : dVal xs (takeDe xs (0, 0)).1.1 (takeDe xs (0, 0)).1.2 = 0
  · rw [if_pos q]
    have q1 : (takeDe xs (0, 0)).1.2 = 0 ∧ ¬ (takeDe xs (0, 0)).1.1 < xs.length := by
      unfold dVal at q
      split at q
      · cases q
      · rename_i z; exact ⟨q, fun y => z ⟨q, y⟩⟩
    obtain ⟨-, h2, h3⟩ := takeDe_back hb q1.1
    simp only [List.drop_zero] at h3
    rw [show xs.drop (takeDe xs (0, 0)).1.1 = [] from List.drop_eq_nil_of_le (by omega), List.append_nil] at h3
    exact ⟨h3.symm, h2⟩
  · rw [if_neg q] at h; exact absurd h q
/-- Read of the first k bytes alone: the same, or the end came. -/
def Cuts {α : Type} (f : List Int → (Nat × Int) × α) (xs : List Int) (k : Nat) : Prop := (f xs).1.2 = 0 → ((f xs).1.1 ≤ k ∧ f (xs.take k) = f xs) ∨ (f (xs.take k)).1.2 = 4
theorem Cuts.bind {α β : Type} {xs : List Int} {k : Nat} {f : List Int → (Nat × Int) × α} {g : List Int → (Nat × Int) × α → (Nat × Int) × β} (hf : Cuts f xs k) (hz : (g xs (f xs)).1.2 = 0 → (f xs).1.2 = 0)
    (hg : (f xs).1.1 ≤ k → Cuts (fun ys => g ys (f xs)) xs k) (hs : ∀ ys x, x.1.2 = 4 → (g ys x).1.2 = 4) : Cuts (fun ys => g ys (f ys)) xs k := by
  intro h
  rcases hf (hz h) with ⟨h1, h2⟩ | h2
  · have := hg h1 h
    simp only [h2]
    exact this
  · exact .inr (hs _ _ h2)
theorem rd_pre : ∀ (l : List Int) (i n j : Nat), (rd i n l).2.2 = 0 → (i : Int) + 1 ≤ (rd i n l).2.1 ∧ (((rd i n l).2.1 ≤ (i : Int) + (j : Int) ∧ rd i n (l.take j) = rd i n l) ∨ (rd i n (l.take j)) = (0, 0, 4)) := by
  intro l
  induction l with
  | nil => intro i n j h; cases h
  | cons c l ih =>
    intro i n j h
    have e : rd i n (c :: l) = if i = 9 ∧ 1 < c ∨ 0 < i ∧ c = 0 then (0, 0, 3) else if c < 128 then (((n + c.toNat % 128 * 128 ^ i : Nat) : Int), ((i + 1 : Nat) : Int), 0) else rd (i + 1) (n + c.toNat % 128 * 128 ^ i) l := rfl
    have e2 : ∀ m, rd i n (c :: m) = if i = 9 ∧ 1 < c ∨ 0 < i ∧ c = 0 then (0, 0, 3) else if c < 128 then (((n + c.toNat % 128 * 128 ^ i : Nat) : Int), ((i + 1 : Nat) : Int), 0) else rd (i + 1) (n + c.toNat % 128 * 128 ^ i) m := fun m => rfl
    rw [e] at h ⊢
    by_cases q : i = 9 ∧ 1 < c ∨ 0 < i ∧ c = 0
    · rw [if_pos q] at h; cases h
    · rw [if_neg q] at h ⊢
      by_cases q2 : c < 128
      · rw [if_pos q2] at h ⊢
        refine ⟨by simp only; omega, ?_⟩
        cases j with
        | zero => right; rfl
        | succ j =>
          left
          rw [List.take_succ_cons, e2, if_neg q, if_pos q2]
          exact ⟨by simp only; omega, rfl⟩
      · rw [if_neg q2] at h ⊢
        cases j with
        | zero =>
          obtain ⟨h1, -⟩ := ih (i + 1) _ 0 h
          exact ⟨by omega, .inr rfl⟩
        | succ j =>
          obtain ⟨h1, h2⟩ := ih (i + 1) _ j h
          rw [List.take_succ_cons, e2, if_neg q, if_neg q2]
          refine ⟨by omega, ?_⟩
          rcases h2 with ⟨h2, h3⟩ | h3
          · exact .inl ⟨by omega, h3⟩
          · exact .inr h3
theorem num_cuts {xs : List Int} {s : Nat × Int} {k : Nat} (hk : s.1 ≤ k) : Cuts (fun ys => numD ys s) xs k := by
  obtain ⟨t, E⟩ := s
  intro h
  simp only at hk h
  by_cases hE : E = 0
  · subst hE
    have h' : (rd 0 0 (xs.drop t)).2.2 = 0 := by simpa [numD, nEr] using h
    obtain ⟨h1, h2⟩ := rd_pre (xs.drop t) 0 0 (k - t) h'
    have e : (xs.take k).drop t = (xs.drop t).take (k - t) := by rw [List.drop_take]
    rcases h2 with ⟨h2, h3⟩ | h3
    · left
      refine ⟨?_, ?_⟩
      · simp only [numD, nu_nAt, if_true]; omega
      · simp only [numD, nu_nAt, nEr, nVal, if_true, e, h3]
    · right
      simp only [numD, nEr, if_true, e, h3]
  · simp only [numD, nEr, if_neg hE] at h; exact absurd h hE
theorem num_stay {xs : List Int} {s : Nat × Int} (h : s.2 = 4) : (numD xs s).1.2 = 4 := by
  simp only [numD, nEr, h]; rfl
theorem up_stay {xs : List Int} {s : Nat × Int} {most er : Int} (h : (numD xs s).1.2 = 4) : (upD xs s most er).1.2 = 4 := by
  have h' : nEr xs s.1 s.2 = 4 := h
  simp only [upD, uEr, h']
  rfl
theorem up_cuts {xs : List Int} {s : Nat × Int} {k : Nat} {most er : Int} (he : er ≠ 0) (hk : s.1 ≤ k) : Cuts (fun ys => upD ys s most er) xs k := by
  intro h
  simp only at h
  obtain ⟨h1, h2, h3⟩ := up_num he h
  have h0 : (numD xs s).1.2 = 0 := by rw [← h1]; exact h
  rcases num_cuts hk h0 with ⟨h4, h5⟩ | h5
  · left
    simp only at h4 h5
    refine ⟨by simp only [h1]; exact h4, ?_⟩
    have e1 : nEr (xs.take k) s.1 s.2 = nEr xs s.1 s.2 := congrArg (fun z => z.1.2) h5
    have e2 : nVal (xs.take k) s.1 s.2 = nVal xs s.1 s.2 := congrArg (fun z => z.2) h5
    have e3 : nu_nAt (xs.take k) s.1 s.2 = nu_nAt xs s.1 s.2 := congrArg (fun z => z.1.1) h5
    simp only [upD, uAt, uEr, uVal, e1, e2, e3]
  · exact .inr (up_stay h5)
theorem up_four {xs : List Int} {s : Nat × Int} {most er : Int} (h : s.2 = 4) : (upD xs s most er).1.2 = 4 := up_stay (num_stay h)
def penG (x : (Nat × Int) × Int) : (Nat × Int) × Pn :=
  if x.1.2 = 0 ∧ 16927 < x.2 then ((x.1.1, 5), (ofN 0).1)
  else ((x.1.1, if (ofN x.2).2 = true then x.1.2 else fEr x.1.2 5), (ofN x.2).1)
theorem pen_is (xs : List Int) (s : Nat × Int) : penD xs s = penG (numD xs s) := rfl
theorem penG_at (x : (Nat × Int) × Int) : (penG x).1.1 = x.1.1 := by unfold penG; split <;> rfl
theorem penG_zero {x : (Nat × Int) × Int} (h : (penG x).1.2 = 0) : x.1.2 = 0 := by
  unfold penG at h
  split at h
  · cases h
  · simp only at h
    split at h
    · exact h
    · unfold fEr at h; split at h
      · cases h
      · exact h
theorem penG_four {x : (Nat × Int) × Int} (h : x.1.2 = 4) : (penG x).1.2 = 4 := by
  unfold penG
  rw [if_neg (by rw [h]; intro z; exact absurd z.1 (by decide))]
  simp only [fEr, h]
  split <;> rfl
theorem pen_cuts {xs : List Int} {s : Nat × Int} {k : Nat} (hk : s.1 ≤ k) : Cuts (fun ys => penD ys s) xs k := by
  intro h
  simp only [pen_is] at h ⊢
  rcases num_cuts hk (penG_zero h) with ⟨h1, h2⟩ | h2
  · simp only at h1 h2
    exact .inl ⟨by rw [penG_at]; exact h1, by rw [h2]⟩
  · exact .inr (penG_four h2)
theorem pen_four {xs : List Int} {s : Nat × Int} (h : s.2 = 4) : (penD xs s).1.2 = 4 := penG_four (num_stay h)
theorem up_zero {xs : List Int} {s : Nat × Int} {most er : Int} (he : er ≠ 0) (h : (upD xs s most er).1.2 = 0) : s.2 = 0 := by
  obtain ⟨h1, -, -⟩ := up_num he h
  rw [h1] at h
  by_cases q : s.2 = 0
  · exact q
  · simp only [numD, nEr, if_neg q] at h; exact absurd h q
theorem pen_zero {xs : List Int} {s : Nat × Int} (h : (penD xs s).1.2 = 0) : s.2 = 0 := by
  rw [pen_is] at h
  have h := penG_zero h
  by_cases q : s.2 = 0
  · exact q
  · simp only [numD, nEr, if_neg q] at h; exact absurd h q
theorem marks_four {xs : List Int} {s : Nat × Int} {j : Int} (h : s.2 = 4) : (marksD xs s j).1.2 = 4 := by
  unfold marksD
  split
  · exact h
  · split
    · exact up_four h
    · exact up_four (up_four h)
theorem marks_cuts {xs : List Int} {s : Nat × Int} {k : Nat} {j : Int} (hk : s.1 ≤ k) : Cuts (fun ys => marksD ys s j) xs k := by
  intro h
  simp only at h
  unfold marksD at h ⊢
  by_cases q : j < 1
  · simp only [if_pos q] at h ⊢
    exact .inl ⟨hk, trivial⟩
  · simp only [if_neg q] at h ⊢
    by_cases q2 : j < 2
    · simp only [if_pos q2] at h ⊢
      rcases up_cuts (k := k) (by decide) hk h with ⟨h1, h2⟩ | h2
      · simp only at h1 h2
        exact .inl ⟨h1, by rw [h2]⟩
      · exact .inr h2
    · simp only [if_neg q2] at h ⊢
      have h0 := up_zero (by decide) h
      rcases up_cuts (k := k) (by decide) hk h0 with ⟨h1, h2⟩ | h2
      · simp only at h1 h2
        rw [h2]
        rcases up_cuts (k := k) (by decide) h1 h with ⟨h3, h4⟩ | h4
        · simp only at h3 h4
          exact .inl ⟨h3, by rw [h4]⟩
        · exact .inr h4
      · exact .inr (up_four h2)
theorem one_four {xs : List Int} {s : Nat × Int} (h : s.2 = 4) : (oneD xs s).1.2 = 4 := by
  unfold oneD
  simp only
  split
  · exact pen_four (up_four h)
  · exact marks_four (up_four (up_four (pen_four (up_four h))))
theorem marks_zero {xs : List Int} {s : Nat × Int} {j : Int} (h : (marksD xs s j).1.2 = 0) : s.2 = 0 := by
  unfold marksD at h
  split at h
  · exact h
  · split at h
    · exact up_zero (by decide) h
    · exact up_zero (by decide) (up_zero (by decide) h)
theorem one_cuts {xs : List Int} {s : Nat × Int} {k : Nat} (hk : s.1 ≤ k) : Cuts (fun ys => oneD ys s) xs k := by
  intro h
  simp only at h
  unfold oneD at h ⊢
  simp only at h ⊢
  by_cases q : (upD xs s 2 5).2 = 0
  · rw [if_pos q] at h
    have h1 := pen_zero h
    rcases up_cuts (k := k) (by decide) hk h1 with ⟨a1, a2⟩ | a2
    · simp only at a1 a2
      rw [a2, if_pos q, if_pos q]
      rcases pen_cuts (k := k) a1 h with ⟨b1, b2⟩ | b2
      · simp only at b1 b2
        exact .inl ⟨b1, by rw [b2]⟩
      · exact .inr b2
    · right
      split
      · exact pen_four a2
      · exact marks_four (up_four (up_four (pen_four a2)))
  · rw [if_neg q] at h
    have h1 := marks_zero h
    have h2 := up_zero (by decide) h1
    have h3 := up_zero (by decide) h2
    have h4 := pen_zero h3
    rcases up_cuts (k := k) (by decide) hk h4 with ⟨a1, a2⟩ | a2
    · simp only at a1 a2
      rw [a2, if_neg q, if_neg q]
      rcases pen_cuts (k := k) a1 h3 with ⟨b1, b2⟩ | b2
      · simp only at b1 b2
        rw [b2]
        rcases up_cuts (k := k) (by decide) b1 h2 with ⟨c1, c2⟩ | c2
        · simp only at c1 c2
          rw [c2]
          rcases up_cuts (k := k) (by decide) c1 h1 with ⟨d1, d2⟩ | d2
          · simp only at d1 d2
            rw [d2]
            rcases marks_cuts (k := k) d1 h with ⟨e1, e2⟩ | e2
            · simp only at e1 e2
              exact .inl ⟨e1, by rw [e2]⟩
            · exact .inr e2
          · exact .inr (marks_four d2)
        · exact .inr (marks_four (up_four c2))
      · exact .inr (marks_four (up_four (up_four b2)))
    · right
      split
      · exact pen_four a2
      · exact marks_four (up_four (up_four (pen_four a2)))
theorem one_zero {xs : List Int} {s : Nat × Int} (h : (oneD xs s).1.2 = 0) : s.2 = 0 := by
  unfold oneD at h
  simp only at h
  split at h
  · exact up_zero (by decide) (pen_zero h)
  · exact up_zero (by decide) (pen_zero (up_zero (by decide) (up_zero (by decide) (marks_zero h))))
def stepJ (i : Nat) (out : List Cel) (n : Int) (c : (Nat × Int) × Cel × Bool) : (Nat × Int) × List Cel :=
  let s2 := if c.1.2 = 0 ∧ (c.2.2 = false ∨ rightC c.2.1 = false ∨ 0 < i ∧ cAt out (out.length - 1) = c.2.1) then (c.1.1, 3) else c.1
  (s2, if s2.2 = 0 then out ++ List.replicate n.toNat c.2.1 else out)
def stepK (a : (Nat × Int) × Int) : Nat × Int := if a.1.2 = 0 ∧ a.2 = 0 then (a.1.1, 3) else a.1
theorem step_is (xs : List Int) (i : Nat) (x : (Nat × Int) × List Cel) : stepD xs i x = stepJ i x.2 (upD xs x.1 (512 - (x.2.length : Int)) 6).2 (oneD xs (stepK (upD xs x.1 (512 - (x.2.length : Int)) 6))) := rfl
theorem stepJ_at (i : Nat) (out : List Cel) (n : Int) (c : (Nat × Int) × Cel × Bool) : (stepJ i out n c).1.1 = c.1.1 := by unfold stepJ; simp only; split <;> rfl
theorem stepJ_zero {i : Nat} {out : List Cel} {n : Int} {c : (Nat × Int) × Cel × Bool} (h : (stepJ i out n c).1.2 = 0) : c.1.2 = 0 := by
  unfold stepJ at h
  simp only at h
  split at h
  · cases h
  · exact h
theorem stepJ_four {i : Nat} {out : List Cel} {n : Int} {c : (Nat × Int) × Cel × Bool} (h : c.1.2 = 4) : (stepJ i out n c).1.2 = 4 := by
  unfold stepJ
  simp only
  rw [if_neg (by rw [h]; intro z; exact absurd z.1 (by decide))]
  exact h
theorem stepK_four {a : (Nat × Int) × Int} (h : a.1.2 = 4) : (stepK a).2 = 4 := by
  unfold stepK
  rw [if_neg (by rw [h]; intro z; exact absurd z.1 (by decide))]
  exact h
theorem stepK_at (a : (Nat × Int) × Int) : (stepK a).1 = a.1.1 := by unfold stepK; split <;> rfl
theorem stepK_zero {a : (Nat × Int) × Int} (h : (stepK a).2 = 0) : a.1.2 = 0 := by
  unfold stepK at h
  split at h
  · cases h
  · exact h
theorem step_four {xs : List Int} {i : Nat} {x : (Nat × Int) × List Cel} (h : x.1.2 = 4) : (stepD xs i x).1.2 = 4 := by
  rw [step_is]
  exact stepJ_four (one_four (stepK_four (up_four h)))
theorem step_cuts {xs : List Int} {i k : Nat} {x : (Nat × Int) × List Cel} (hk : x.1.1 ≤ k) : Cuts (fun ys => stepD ys i x) xs k := by
  intro h
  simp only [step_is] at h ⊢
  have h1 := stepJ_zero h
  have h2 := stepK_zero (one_zero h1)
  rcases up_cuts (k := k) (by decide) hk h2 with ⟨a1, a2⟩ | a2
  · simp only at a1 a2
    rw [a2]
    rcases one_cuts (k := k) (by rw [stepK_at]; exact a1) h1 with ⟨b1, b2⟩ | b2
    · simp only at b1 b2
      exact .inl ⟨by rw [stepJ_at]; exact b1, by rw [b2]⟩
    · exact .inr (stepJ_four b2)
  · exact .inr (stepJ_four (one_four (stepK_four a2)))
theorem loop_eq (xs : List Int) (s : Nat × Int) (n : Nat) : loopD xs s (n + 1) = if (loopD xs s n).1.2 = 0 then stepD xs n (loopD xs s n) else loopD xs s n := rfl
theorem loop_four {xs : List Int} {s : Nat × Int} (h : s.2 = 4) : ∀ n, (loopD xs s n).1.2 = 4 := by
  intro n
  induction n with
  | zero => exact h
  | succ n ih => rw [loop_eq, if_neg (by rw [ih]; decide)]; exact ih
theorem loop_zero {xs : List Int} {s : Nat × Int} : ∀ n, (loopD xs s n).1.2 = 0 → s.2 = 0 := by
  intro n
  induction n with
  | zero => intro h; exact h
  | succ n ih =>
    intro h
    rw [loop_eq] at h
    by_cases q : (loopD xs s n).1.2 = 0
    · exact ih q
    · rw [if_neg q] at h; exact absurd h q
theorem loop_cuts {xs : List Int} {s : Nat × Int} {k : Nat} (hk : s.1 ≤ k) : ∀ n, Cuts (fun ys => loopD ys s n) xs k := by
  intro n
  induction n with
  | zero => intro h; exact .inl ⟨hk, rfl⟩
  | succ n ih =>
    intro h
    simp only [loop_eq] at h ⊢
    by_cases q : (loopD xs s n).1.2 = 0
    · rw [if_pos q] at h
      rcases ih q with ⟨a1, a2⟩ | a2
      · simp only at a1 a2
        rw [a2, if_pos q, if_pos q]
        exact step_cuts a1 h
      · simp only at a2
        exact .inr (by rw [if_neg (by rw [a2]; decide)]; exact a2)
    · rw [if_neg q] at h; exact absurd h q
def takeJ (b : (Nat × Int) × List Cel) : (Nat × Int) × List Cel := if b.1.2 = 0 then b else (b.1, [])
theorem take_is (xs : List Int) (s : Nat × Int) : takeD xs s = takeJ (loopD xs (upD xs s 512 6).1 (upD xs s 512 6).2.toNat) := rfl
theorem takeJ_one (b : (Nat × Int) × List Cel) : (takeJ b).1 = b.1 := by unfold takeJ; split <;> rfl
theorem take_four {xs : List Int} {s : Nat × Int} (h : s.2 = 4) : (takeD xs s).1.2 = 4 := by
  rw [take_is, takeJ_one]
  exact loop_four (up_four h) _
theorem take_zero0 {xs : List Int} {s : Nat × Int} (h : (takeD xs s).1.2 = 0) : s.2 = 0 := by
  rw [take_is, takeJ_one] at h
  exact up_zero (by decide) (loop_zero _ h)
theorem take_cuts {xs : List Int} {s : Nat × Int} {k : Nat} (hk : s.1 ≤ k) : Cuts (fun ys => takeD ys s) xs k := by
  intro h
  simp only [take_is, takeJ_one] at h ⊢
  rcases up_cuts (k := k) (by decide) hk (loop_zero _ h) with ⟨a1, a2⟩ | a2
  · simp only at a1 a2
    rw [a2]
    rcases loop_cuts (k := k) a1 _ h with ⟨b1, b2⟩ | b2
    · simp only at b1 b2
      exact .inl ⟨b1, by rw [b2]⟩
    · exact .inr b2
  · exact .inr (loop_four a2 _)
theorem span_four {xs : List Int} {s : Nat × Int} (h : s.2 = 4) : (spanD xs s).1.2 = 4 := take_four (up_four (up_four h))
theorem span_cuts {xs : List Int} {s : Nat × Int} {k : Nat} (hk : s.1 ≤ k) : Cuts (fun ys => spanD ys s) xs k := by
  intro h
  simp only at h
  unfold spanD at h ⊢
  simp only at h ⊢
  have h1 := take_zero0 h
  rcases up_cuts (k := k) (by decide) hk (up_zero (by decide) h1) with ⟨a1, a2⟩ | a2
  · simp only at a1 a2
    rw [a2]
    rcases up_cuts (k := k) (by decide) a1 h1 with ⟨b1, b2⟩ | b2
    · simp only at b1 b2
      rw [b2]
      rcases take_cuts (k := k) b1 h with ⟨c1, c2⟩ | c2
      · simp only at c1 c2
        exact .inl ⟨c1, by rw [c2]⟩
      · exact .inr c2
    · exact .inr (take_four b2)
  · exact .inr (take_four (up_four a2))
theorem dloop_eq (xs : List Int) (s : Nat × Int) (n : Nat) : dloopD xs s (n + 1) = if (dloopD xs s n).1.2 = 0 then ((spanD xs (dloopD xs s n).1).1, (dloopD xs s n).2 ++ [(spanD xs (dloopD xs s n).1).2]) else dloopD xs s n := rfl
theorem dloop_four {xs : List Int} {s : Nat × Int} (h : s.2 = 4) : ∀ n, (dloopD xs s n).1.2 = 4 := by
  intro n
  induction n with
  | zero => exact h
  | succ n ih => rw [dloop_eq, if_neg (by rw [ih]; decide)]; exact ih
theorem dloop_zero {xs : List Int} {s : Nat × Int} : ∀ n, (dloopD xs s n).1.2 = 0 → s.2 = 0 := by
  intro n
  induction n with
  | zero => intro h; exact h
  | succ n ih =>
    intro h
    rw [dloop_eq] at h
    by_cases q : (dloopD xs s n).1.2 = 0
    · exact ih q
    · rw [if_neg q] at h; exact absurd h q
theorem dloop_cuts {xs : List Int} {s : Nat × Int} {k : Nat} (hk : s.1 ≤ k) : ∀ n, Cuts (fun ys => dloopD ys s n) xs k := by
  intro n
  induction n with
  | zero => intro h; exact .inl ⟨hk, rfl⟩
  | succ n ih =>
    intro h
    simp only [dloop_eq] at h ⊢
    by_cases q : (dloopD xs s n).1.2 = 0
    · rw [if_pos q] at h
      rcases ih q with ⟨a1, a2⟩ | a2
      · simp only at a1 a2
        rw [a2, if_pos q, if_pos q]
        rcases span_cuts (k := k) a1 h with ⟨b1, b2⟩ | b2
        · simp only at b1 b2
          exact .inl ⟨b1, by rw [b2]⟩
        · exact .inr b2
      · simp only at a2
        exact .inr (by rw [if_neg (by rw [a2]; decide)]; exact a2)
    · rw [if_neg q] at h; exact absurd h q
theorem raw_cuts {xs : List Int} {s : Nat × Int} {k : Nat} (hk : s.1 ≤ k) : Cuts (fun ys => rawD ys s) xs k := by
  intro h
  simp only at h
  unfold rawD at h ⊢
  simp only at h ⊢
  have h5 := dloop_zero _ h
  have h4 := up_zero (by decide) h5
  have h3 := up_zero (by decide) h4
  have h2 := up_zero (by decide) h3
  have h1 := up_zero (by decide) h2
  rcases up_cuts (k := k) (by decide) hk h1 with ⟨a1, a2⟩ | a2
  · simp only at a1 a2
    rw [a2]
    rcases up_cuts (k := k) (by decide) a1 h2 with ⟨b1, b2⟩ | b2
    · simp only at b1 b2
      rw [b2]
      rcases up_cuts (k := k) (by decide) b1 h3 with ⟨c1, c2⟩ | c2
      · simp only at c1 c2
        rw [c2]
        rcases up_cuts (k := k) (by decide) c1 h4 with ⟨d1, d2⟩ | d2
        · simp only at d1 d2
          rw [d2]
          rcases up_cuts (k := k) (by decide) d1 h5 with ⟨e1, e2⟩ | e2
          · simp only at e1 e2
            rw [e2]
            rcases dloop_cuts (k := k) e1 _ h with ⟨f1, f2⟩ | f2
            · simp only at f1 f2
              exact .inl ⟨f1, by rw [f2]⟩
            · exact .inr f2
          · exact .inr (dloop_four e2 _)
        · exact .inr (dloop_four (up_four d2) _)
      · exact .inr (dloop_four (up_four (up_four c2)) _)
    · exact .inr (dloop_four (up_four (up_four (up_four b2))) _)
  · exact .inr (dloop_four (up_four (up_four (up_four (up_four a2)))) _)
/-- A difference's bytes, cut short anywhere, tell none. -/
theorem parseDe_cut {d : Df} (hd : checkDe d = 0) {k : Nat} (hk : k < (bytesDe d).length) : parseDe ((bytesDe d).take k) = (zeroD, 4) := by
  obtain ⟨-, hf⟩ := fine_of hd
  obtain ⟨h1, -⟩ := raw_enc (xs := bytesDe d) (ys := []) (t := 0) hf (by simp)
  have h4 : (rawD ((bytesDe d).take k) (0, 0)).1.2 = 4 := by
    rcases raw_cuts (xs := bytesDe d) (s := (0, 0)) (k := k) (Nat.zero_le _) (by simp only [h1]) with ⟨a1, -⟩ | a1
    · simp only [h1] at a1; omega
    · exact a1
  have hz : ∀ t : Nat, dVal ((bytesDe d).take k) t 4 = 4 := fun t => by unfold dVal; rw [if_neg (fun z => absurd z.1 (by decide))]
  unfold parseDe takeDe
  simp [h4, hz]
/-- Of a difference that may be told there is a byte at least. -/
theorem bytesDe_pos (d : Df) : 1 ≤ (bytesDe d).length := by
  unfold bytesDe
  rw [List.length_append]
  have : 1 ≤ (enc d.rows.toNat).length := by unfold enc encF; split <;> simp
  omega
section
open Go.ChangeShapes Go.WideShapes Go.ChangeAt Go.RowKit
/-- The sides that are told next. -/
def sidesD (xs : List Int) (s : Nat × Int) : Nat → (Nat × Int) × List Int
  | 0 => (s, [])
  | i + 1 => ((upD xs (sidesD xs s i).1 512 5).1, (sidesD xs s i).2 ++ [(upD xs (sidesD xs s i).1 512 5).2])
theorem sides_next (xs : List Int) (s : Nat × Int) (i : Nat) : sidesD xs s (i + 1) = ((upD xs (sidesD xs s i).1 512 5).1, (sidesD xs s i).2 ++ [(upD xs (sidesD xs s i).1 512 5).2]) := rfl
theorem sides_len (xs : List Int) (s : Nat × Int) (n : Nat) : (sidesD xs s n).2.length = n := by
  induction n with
  | zero => rfl
  | succ n ih => rw [sides_next, List.length_append, ih]; rfl
/-- Pointers to the first n cells of the block q. -/
def ptrsTo (q n : Nat) : List Value := (List.range n).map fun i => .pointer (some ⟨q, i, none⟩)
theorem ptrs_at {q n k : Nat} (h : k < n) : (ptrsTo q n)[k]? = some (.pointer (some ⟨q, k, none⟩)) := by
  unfold ptrsTo
  rw [List.getElem?_map, List.getElem?_range h]
  rfl
theorem set_side (a : List Int) (L : List Value) (v : Int) (h : a.length < L.length) : (a.map (Value.int .i64) ++ L.drop a.length).set a.length (.int .i64 v) = (a ++ [v]).map (Value.int .i64) ++ L.drop (a.length + 1) := by
  rw [List.set_append_right _ _ (by simp), List.length_map, Nat.sub_self, List.drop_eq_getElem_cons h]
  simp only [List.set_cons_zero, List.map_append, List.map_cons, List.map_nil, List.append_assoc, List.cons_append, List.nil_append]
theorem Trn.of_g {g q : Nat} {w w' : World} (h : Only g w w') : Trn g q q w w' := ⟨h.os, h.tape, h.output, h.size, fun i hi h1 _ _ => h.block i hi (by simpa using h1)⟩
theorem Trn.of_q {g q : Nat} {w w' : World} (h : Only q w w') : Trn g q q w w' := ⟨h.os, h.tape, h.output, h.size, fun i hi _ _ h3 => h.block i hi (by simpa using h3)⟩
theorem Trn.onlyq {g q : Nat} {w w1 : World} (h : Trn g q q w w1) {i : Nat} (x : Value) : Trn g q q w (w1.setCell ⟨q, i, none⟩ x) := h.trans (.of_q (Only.put i x)) (.inl rfl)
/-- .. where the second block is new: the first one alone has turned. -/
theorem Trn.only {g q : Nat} {w w0 w1 : World} (h : Trn g q q w0 w1) (hb : Below w.heap.size w w0) (hq : w.heap.size ≤ q) : Only g w w1 :=
  ⟨h.os.trans hb.os, h.tape.trans hb.tape, h.output.trans hb.output, Nat.le_trans hb.size h.size, fun i hi hne => (h.block i (Nat.lt_of_lt_of_le hi hb.size) (by simpa using hne) (by omega) (by omega)).trans (hb.block i hi)⟩

theorem takesides_any (g q Q : Nat) (t : TypeId) (n : Nat) (L : List Value) (xs : List Int) (s : Nat × Int) (w : World) (h : RdS w g xs s) (hb : Byte xs) (hl : xs.length ≤ 1000000)
    (hQ : Whole w Q 127 (ptrsTo q n)) (hq : Whole w q t L) (hn : n ≤ L.length) (hn2 : n ≤ 1000) (ht : t ≠ 5) (hgq : g ≠ q) (hgQ : g ≠ Q) (hQq : Q ≠ q) :
    Calls Tryz.prog 65 #[.pointer (some ⟨g, 0, none⟩), .slice (some ⟨Q, 0, none⟩) n n] w fun e w' => e = .returned (.tuple #[]) ∧ RdS w' g xs (sidesD xs s n).1 ∧ Whole w' q t ((sidesD xs s n).2.map (Value.int .i64) ++ L.drop n) ∧ Trn g q q w w' := by
  have HR := hide h
  have HQ := hide hQ
  have HX := hide hq
  have HNL := hide hn
  have HT := hide ht
  have HGQ := hide hgq
  have HGP := hide hgQ
  have HPQ := hide hQq
  clear h hQ hq hn ht hgq hgQ hQq
  go_enter Tryz.func65, Tryz.ntmps65
  go_wp2
  go_loopw [5, 8] (fun _ i wr => ∃ k : Nat, k ≤ n ∧ i = .int .i64 k ∧ Hid (RdS wr g xs (sidesD xs s k).1) ∧ Hid (Whole wr q t ((sidesD xs s k).2.map (Value.int .i64) ++ L.drop k)) ∧ Hid (Trn g q q w wr)) (fun _ i _ => n - (intOf i).toNat)
  case atStart => exact ⟨0, Nat.zero_le _, rfl, HR, HX, Trn.refl⟩
  case round =>
    obtain ⟨k, hk, rfl, HRk, HXk, HTk⟩ := hrel
    by_cases hlt : k < n
    · have HNX := hide (sides_next xs s k)
      obtain ⟨⟨s1, l1⟩, hS⟩ : ∃ S, sidesD xs s k = S := ⟨_, rfl⟩
      have HLK : Hid (l1.length = k) := by have := sides_len xs s k; rw [hS] at this; exact this
      rw [hS] at HRk HXk HNX
      simp only at HRk HXk HNX
      have KEY := hide (upto_s g xs s1 512 wr HRk.out hb hl (by omega))
      obtain ⟨⟨s2, v⟩, hU⟩ : ∃ U, upD xs s1 512 5 = U := ⟨_, rfl⟩
      rw [hU] at KEY HNX
      simp only at KEY HNX
      clear hS hU
      have q0 : wr.cell? ⟨Q, k, none⟩ = some (.pointer (some ⟨q, k, none⟩)) := by rw [(HTk.out.whole HQ.out (Ne.symm HGP.out) HPQ.out HPQ.out).cell, ptrs_at hlt]
      have lq : Q < wr.heap.size := (HTk.out.whole HQ.out (Ne.symm HGP.out) HPQ.out HPQ.out).lt
      go_wp2_with fail
      refine KEY.out.mono ?_
      rintro e w1 ⟨rfl, ho, hr⟩
      have HX1 := hide (HXk.out.far ho (Ne.symm HGQ.out))
      have HR1 := hide hr
      have HT1 := hide (HTk.out.trans (.of_g ho) (.inl rfl))
      clear ho hr q0 lq
      obtain ⟨old, x0⟩ : ∃ old, w1.cell? ⟨q, k, none⟩ = some old := by
        have := HNL.out
        have hlen : k < (l1.map (Value.int .i64) ++ L.drop k).length := by rw [List.length_append, List.length_map, HLK.out, List.length_drop]; omega
        exact ⟨_, (HX1.out.cell k).trans (List.getElem?_eq_getElem hlen)⟩
      have z0 := HX1.out.frozen k
      have l0 := HX1.out.lt
      have HR2 : Hid (RdS (w1.setCell ⟨q, k, none⟩ (.int .i64 v)) g xs s2) := HR1.out.putq HX1.out HT.out HGQ.out
      have HX2 : Hid (Whole (w1.setCell ⟨q, k, none⟩ (.int .i64 v)) q t ((l1 ++ [v]).map (Value.int .i64) ++ L.drop (k + 1))) := by
        have := HX1.out.put k (.int .i64 v)
        have e := set_side l1 L v (by have := HNL.out; have := HLK.out; omega)
        rw [HLK.out] at e
        rw [e] at this
        exact this
      have HT2 : Hid (Trn g q q w (w1.setCell ⟨q, k, none⟩ (.int .i64 v))) := HT1.out.onlyq _
      go_wp2
      go_roundw
      case rel => exact ⟨k + 1, by omega, by go_num, by rw [HNX.out]; exact HR2, by rw [HNX.out]; exact HX2, HT2⟩
      case measure => simp [intOf]; omega
    · obtain rfl : k = n := by omega
      go_wp2
      go_end0
      exact ⟨rfl, HRk.out, HXk.out, HTk.out⟩
theorem retS3 {R : Ending → World → Prop} {a : Act} {w : World} {fn : Func} {s : Nat} {q : Nat} {x0 x1 x2 : Value} (hr : fn.results = #[.cell s 68]) (h4 : a.tmps.getD s undef = .pointer (some ⟨q, 0, none⟩)) (hd : a.defers = [])
    (hw : Whole w q 68 [x0, x1, x2]) (hR : R (.returned (.agg #[x0, x1, x2])) w) : bodyPost Tryz.prog fn R .ret a w := by
  have c0 : w.cell? ⟨q, 0, none⟩ = some x0 := hw.cell 0
  have c1 : w.cell? ⟨q, 1, none⟩ = some x1 := hw.cell 1
  have c2 : w.cell? ⟨q, 2, none⟩ = some x2 := hw.cell 2
  clear hw
  rw [Array.getD_eq_getD_getElem?] at h4
  exact bodyPost_ret (v := .agg #[x0, x1, x2]) (by simp [results, hr, h4, c0, c1, c2, go_sem]) hd hR
theorem stays_three {t t' : TypeId} {w : World} {q : Nat} {l : List Value} (hw : Whole w q t' l) (ht : t ≠ t') (x0 x1 x2 : Value) : Stays t w (((w.setCell ⟨q, 0, none⟩ x0).setCell ⟨q, 1, none⟩ x1).setCell ⟨q, 2, none⟩ x2) :=
  ((Stays.put hw ht).trans (Stays.put (hw.put 0 x0) ht)).trans (Stays.put ((hw.put 0 x0).put 1 x1) ht)
/-- A slice of cells that is told: where it lies. -/
structure Tld (t : TypeId) (k : IntKind) (w : World) (A : Option Addr) (c : Nat) (cs : List Cel) : Prop where
  cels : CelsT 0 t k w A cs
  cap : cs.length ≤ c
  none : A = none → c = 0
theorem Tld.keep {t : TypeId} {k : IntKind} {w w' : World} {A : Option Addr} {c : Nat} {cs : List Cel} (h : Tld t k w A c cs) (hs : Stays t w w') : Tld t k w' A c cs := ⟨h.cels.keep (fun b hb => absurd hb (Nat.not_lt_zero b)) hs, h.cap, h.none⟩
/-- What takeSpan leaves. -/
def SpanS (g : Nat) (w : World) (xs : List Int) (x : (Nat × Int) × Sp) (e : Ending) (w' : World) : Prop :=
  ∃ A c, e = .returned (.agg #[.int .i64 x.2.row, .int .i64 x.2.col, .slice A x.2.cs.length c]) ∧ Tld 105 .i32 w' A c x.2.cs ∧ Only g w w' ∧ RdS w' g xs x.1
def zsp : List Value := [.int .i64 0, .int .i64 0, .slice none 0 0]
theorem span_sides (xs : List Int) (s : Nat × Int) : sidesD xs s 2 = ((upD xs (upD xs s 512 5).1 512 5).1, [(upD xs s 512 5).2, (upD xs (upD xs s 512 5).1 512 5).2]) := rfl

theorem takespan_s (g : Nat) (xs : List Int) (s : Nat × Int) (w : World) (h : RdS w g xs s) (hb : Byte xs) (hl : xs.length ≤ 1000000) (hS : Spans w) :
    Calls Tryz.prog 68 #[.pointer (some ⟨g, 0, none⟩)] w (SpanS g w xs (spanD xs s)) := by
  have hgl := h.lt
  have HG0 := hide (spans_rd hS h)
  obtain ⟨W0, hW0⟩ : ∃ W0, ((w.alloc (.cells #[.int .i64 0, .int .i64 0, .slice none 0 0] 68)).alloc (.cells #[.int .i64 0, .int .i64 0, .slice none 0 0] 68)).alloc (.cells #[.pointer (some ⟨w.heap.size + 1, 0, none⟩), .pointer (some ⟨w.heap.size + 1, 1, none⟩)] 127) = W0 := ⟨_, rfl⟩
  have HB0 : Hid (Below w.heap.size w W0) := by unfold Hid; rw [← hW0]; exact three_newW w _ _ _
  have HP0 : Hid (Whole W0 w.heap.size 68 [.int .i64 0, .int .i64 0, .slice none 0 0]) := by unfold Hid; rw [← hW0]; exact ((Whole.new w 68 [.int .i64 0, .int .i64 0, .slice none 0 0]).alloc _).alloc _
  have HX0 : Hid (Whole W0 (w.heap.size + 1) 68 [.int .i64 0, .int .i64 0, .slice none 0 0]) := by unfold Hid; rw [← hW0]; exact (whole_snd w _ 68 [.int .i64 0, .int .i64 0, .slice none 0 0]).alloc _
  have HQ0 : Hid (Whole W0 (w.heap.size + 1 + 1) 127 (ptrsTo (w.heap.size + 1) 2)) := by unfold Hid; rw [← hW0]; exact whole_thd w _ _ 127 [.pointer (some ⟨w.heap.size + 1, 0, none⟩), .pointer (some ⟨w.heap.size + 1, 1, none⟩)]
  have HR0 := hide (h.later HB0.out)
  have HS0 := hide hS
  have KEY := hide (takesides_any g (w.heap.size + 1) (w.heap.size + 1 + 1) 68 2 [.int .i64 0, .int .i64 0, .slice none 0 0] xs s W0 HR0.out hb hl HQ0.out HX0.out (by decide) (by decide) (by decide) (by omega) (by omega) (by omega))
  have hsp : spanD xs s = ((takeD xs (sidesD xs s 2).1).1, ⟨(upD xs s 512 5).2, (upD xs (upD xs s 512 5).1 512 5).2, (takeD xs (sidesD xs s 2).1).2⟩) := rfl
  rw [span_sides] at KEY hsp
  obtain ⟨a1, ha1⟩ : ∃ a, (upD xs s 512 5).2 = a := ⟨_, rfl⟩
  obtain ⟨⟨s2, a2⟩, ha2⟩ : ∃ a, upD xs (upD xs s 512 5).1 512 5 = a := ⟨_, rfl⟩
  rw [ha1, ha2] at KEY hsp
  simp only [List.map_cons, List.map_nil, List.drop_succ_cons, List.drop_zero, List.cons_append, List.nil_append] at KEY
  simp only at hsp
  obtain ⟨⟨s3, cs⟩, hT⟩ : ∃ T, takeD xs s2 = T := ⟨_, rfl⟩
  rw [hT] at hsp
  have HSP := hide hsp
  have HTD := hide hT
  have HW0 := hide hW0
  have HGL := hide hgl
  clear h hS hW0 ha1 ha2 hsp hT hgl
  go_enter Tryz.func68, Tryz.ntmps68
  go_wp2_with fail
  rw [HW0.out]
  refine KEY.out.mono ?_
  rintro e w1 ⟨rfl, hr, hx, ht⟩
  have HO1 := hide (ht.only HB0.out (by omega))
  have HP1 := hide (ht.whole HP0.out (by have := HGL.out; omega) (by omega) (by omega))
  have HR1 := hide hr
  have HX1 := hide hx
  have HS1 := hide (HO1.out.spans HS0.out HG0.out)
  clear hr hx ht
  go_wp2_with fail
  refine (take_s g xs s2 w1 HR1.out hb hl HS1.out).mono ?_
  rw [HTD.out]
  rintro e w2 ⟨A, c, rfl, hct, ⟨hcl, hcn⟩, ho, hr⟩
  simp only at hct hcl hr
  obtain ⟨n, hn⟩ : ∃ n, cs.length = n := ⟨_, rfl⟩
  simp only
  rw [hn]
  have HTL : Hid (Tld 105 .i32 w2 A c cs) := ⟨hct, hcl, hcn⟩
  have HN := hide hn
  have HO2 := hide (HO1.out.trans ho)
  have HP2 := hide (HP1.out.far ho (by have := HGL.out; omega))
  have HX2 := hide (HX1.out.far ho (by have := HGL.out; omega))
  have HR2 := hide hr
  clear hct hcl hcn ho hr hn
  obtain ⟨x0, x1, x2, lx⟩ := cells3 HX2.out
  have z2 := HX2.out.frozen 2
  have hx3 : Whole (w2.setCell ⟨w.heap.size + 1, 2, none⟩ (.slice A n c)) (w.heap.size + 1) 68 [.int .i64 a1, .int .i64 a2, .slice A n c] := HX2.out.put 2 _
  have hp3 : Whole (w2.setCell ⟨w.heap.size + 1, 2, none⟩ (.slice A n c)) w.heap.size 68 [.int .i64 0, .int .i64 0, .slice none 0 0] := HP2.out.far (Only.put 2 _) (by omega)
  have HR3 : Hid (RdS (w2.setCell ⟨w.heap.size + 1, 2, none⟩ (.slice A n c)) g xs s3) := HR2.out.putq HX2.out (by decide) (by have := HGL.out; omega)
  have HO3 : Hid (Only g w (w2.setCell ⟨w.heap.size + 1, 2, none⟩ (.slice A n c))) := only_putq HO2.out (by omega) _
  have HT3 : Hid (Tld 105 .i32 (w2.setCell ⟨w.heap.size + 1, 2, none⟩ (.slice A n c)) A c cs) := HTL.out.keep (Stays.put HX2.out (by decide))
  obtain ⟨w3, hw3⟩ : ∃ w3, w2.setCell ⟨w.heap.size + 1, 2, none⟩ (.slice A n c) = w3 := ⟨_, rfl⟩
  rw [hw3] at hx3 hp3 HR3 HO3 HT3
  have HX3 := hide hx3
  have HP3 := hide hp3
  have HW3 := hide hw3
  clear hx3 hp3 hw3
  go_upto_region 4 with fail
  rw [HW3.out]
  clear x0 x1 x2 lx z2
  obtain ⟨x0, x1, x2, lx⟩ := cells3 HX3.out
  obtain ⟨p0, p1, p2, lp⟩ := cells3 HP3.out
  have z0 := HP3.out.frozen 0
  have z1 := HP3.out.frozen 1
  have z2 := HP3.out.frozen 2
  go_wp2
  refine retS3 Tryz.results68 rfl rfl (put3 HP3.out _ _ _) ?_
  rw [HSP.out]
  refine ⟨A, c, by rw [HN.out], HT3.out.keep (stays_three HP3.out (by decide) _ _ _), only_put3 HO3.out (Nat.le_refl _) _ _ _, ?_⟩
  have hne : g ≠ w.heap.size := by have := HGL.out; omega
  exact ((HR3.out.putq (i := 0) (x := .int .i64 a1) HP3.out (by decide) hne).putq (i := 1) (x := .int .i64 a2) (HP3.out.put 0 _) (by decide) hne).putq (i := 2) (x := .slice A n c) ((HP3.out.put 0 _).put 1 _) (by decide) hne
end
end Go.Proofs.YtcbdokocnjoilaaGreatDoor
