/-
  Contract: the closure that appends the bytes of some numbers to what is told.
-/
import Derived.Test.YthogcfjlipaekaaDoorB20
import Derived.Test.YthogcfjlipaekaaDoorB6
import Derived.Test.YthogcfjlipaekaaDoorB7
import Derived.Test.YthogcfjlipaekaaDoorB8
import Derived.Maps.AppendAt
namespace Go.Proofs.YthogcfjlipaekaaDoor
set_option maxRecDepth 100000
open Go.ChangeShapes Go.WideShapes Go.ChangeAt Go.RowKit
set_option linter.unusedVariables false

/-- 'append(row, src...)', src whatever; what it left, and where the new row lies. -/
theorem wpList_catAt {P : Program} {T e : TypeId} {k : IntKind} {bytes : Nat} (E : Elem P T e k bytes) {ops : Array Oper} {rest : List Oper} {o : Oper} {a : Act} {Q : Exit → Act → World → Prop} {B : Nat} {w wr : World} {v : Value} {bs ns : List Int} {A : Option Addr} {n c : Nat}
    (hgd : Region.wanted o (yielded ops a.tmps) = true) (s y : Operand) (ho : o.op = .call { callee := .builtin .append, args := #[s, y], argTypes := #[T, T] })
    (hs : a.eval s = v) (hy : a.eval y = .slice A n c) (hown : Own e k B w wr v bs) (hns : Ints k wr A ns) (hn : ns.length = n) (hc : A = none → c = 0) (hlen : bs.length + n ≤ 1000000) (hby : bytes ≤ 1000)
    (h : ∀ v' w1, Own e k B w w1 v' (bs ++ ns) → wr.grownBy w1 v.ownBlock → (v'.ownBlock = v.ownBlock ∨ v'.ownBlock = some wr.heap.size) → wpList P ops Q rest (a.put o.dst v') w1) : wpList P ops Q (o :: rest) a wr := by
  subst hn
  obtain ⟨i0, hi, hz0, hz1, hz2⟩ := info_parts E.info
  have hb : (bs.length + ns.length) * bytes ≤ 1000000 * 1000 := Nat.mul_le_mul hlen hby
  refine wpList_want hgd fun K hK => ?_
  cases A with
  | none =>
    have hn : ns = [] := by
      rcases hns with h | ⟨_, _, h, _⟩
      · exact h
      · cases h
    subst hn
    obtain rfl : c = 0 := hc rfl
    have hrun := run_append_owned_none (P := P) (w := wr) B T o.type e i0 1 E.under hi v bs.length _ hown.own
    unfold Oper.wp
    simp [execOp, ho, resolve, invoke, builtin, hs, hy, hrun, Result.andThen]
    exact hK _ _ (h v wr (by simpa using hown) ⟨rfl, rfl, rfl, Nat.le_refl _, fun _ _ _ => rfl⟩ (.inl rfl))
  | some ad =>
    have hnews : ∀ j u, (ns.map (Value.int k))[j]? = some u → wr.cell? (ad.add j) = some u := by
      intro j u hu
      have hj : j < ns.length := by have := (List.getElem?_eq_some_iff.1 hu).1; simpa using this
      obtain ⟨b, off, e1, hcell, _⟩ := hns.at hj
      cases e1
      have : (⟨b, off, none⟩ : Addr).add j = ⟨b, off + j, none⟩ := by unfold Addr.add; split <;> simp_all
      rw [this, hcell]
      simp [List.getElem?_eq_getElem hj] at hu ⊢
      exact hu
    obtain ⟨v', w', hr, h2, h3, _, h5⟩ := run_append_own_at (P := P) wr B T o.type e i0 (.int k 0) 1 bytes E.under hi hz0 hz1 hz2 rfl (by decide) v bs.length _ hown.own ad ns.length c (ns.map (Value.int k)) (by simp) hnews (oneCells k ns) (by unfold maxLen; omega) (by omega) hown.le
    unfold Oper.wp execOp
    simp only [ho, resolve, invoke, builtin, Sem.run_bind, Sem.run_pure, Result.andThen_ok, List.map_toArray, List.map_cons, List.map_nil, hs, hy, hr]
    exact hK _ _ (h v' w' (hown.grown h2 h3) h3 h5)
theorem Whole.neq {w : World} {a b : Nat} {t t' : TypeId} {l l' : List Value} (h : Whole w a t l) (k : Whole w b t' l') (ht : t ≠ t') : a ≠ b := by
  rintro rfl
  unfold Whole at h k
  rw [h] at k
  simp only [Option.some.injEq, Obj.cells.injEq] at k
  exact ht k.2.1
/-- The variable p holds these bytes, in a row from B on that isn't the block x. -/
structure Ptx (B p x : Nat) (w : World) (bs : List Int) : Prop where
  ex : ∃ v, Whole w p 31 [v] ∧ Own 5 .u8 B w w v bs ∧ v.ownBlock ≠ some x
  ge : B ≤ p
  ne : x ≠ p
  lt : x < w.heap.size
theorem Ptx.pt {B p x : Nat} {w : World} {bs : List Int} (h : Ptx B p x w bs) : Pt B p w bs := by
  obtain ⟨v, h1, h2, -⟩ := h.ex
  exact ⟨⟨v, h1, h2⟩, h.ge⟩
/-- What puts bytes leaves: the block x too is as it was. -/
structure Px (B p x : Nat) (w w' : World) : Prop where
  ap : Ap B p w w'
  x : w'.heap[x]? = w.heap[x]?
theorem Px.refl {B p x : Nat} {w : World} : Px B p x w w := ⟨Ap.refl, rfl⟩
theorem Px.trans {B p x : Nat} {w w' w'' : World} (h : Px B p x w w') (k : Px B p x w' w'') : Px B p x w w'' := ⟨h.ap.trans k.ap, k.x.trans h.x⟩

set_option maxHeartbeats 2000000 in
theorem deput_any (B p x Q n : Nat) (bs zs : List Int) (w : World) (h : Ptx B p x w bs) (hQ : Whole w Q 3 (zs.map (Value.int .i64))) (hn : zs.length = n) (hn2 : n ≤ 100) (hz : ∀ z ∈ zs, 0 ≤ z ∧ z < 9223372036854775808) (hl : bs.length ≤ 400000) :
    Calls Tryd.prog 30 #[.slice (some ⟨Q, 0, none⟩) n n, .pointer (some ⟨p, 0, none⟩)] w fun e w' => e = .returned (.tuple #[]) ∧ Ptx B p x w' (bs ++ encAll zs) ∧ Px B p x w w' := by
  have HP := hide h
  have HQ0 := hide hQ
  have HN := hide hn
  have HZ := hide hz
  have HQP : Hid (Q ≠ p) := by
    obtain ⟨v, hv, -⟩ := h.ex
    exact hQ.neq hv (by decide)
  have HBP : Hid (B ≤ p) := h.ge
  have HXP : Hid (x ≠ p) := h.ne
  clear h hQ hn hz
  go_enter Tryd.func30, Tryd.ntmps30
  go_wp2
  go_loopw [4, 7] (fun _ i wr => ∃ k : Nat, k ≤ n ∧ i = .int .i64 k ∧ Hid (Ptx B p x wr (bs ++ encAll (zs.take k))) ∧ Hid (Px B p x w wr)) (fun _ i _ => n - (intOf i).toNat)
  case atStart => exact ⟨0, Nat.zero_le _, rfl, by unfold Hid; rw [List.take_zero, encAll_nil, List.append_nil]; exact HP.out, Px.refl⟩
  case round =>
    obtain ⟨k, hk, rfl, HPk, HXk⟩ := hrel
    by_cases hlt : k < n
    · have hkz : k < zs.length := by rw [HN.out]; exact hlt
      obtain ⟨z, hzk⟩ : ∃ z, zs[k] = z := ⟨_, rfl⟩
      obtain ⟨z0, z1⟩ := HZ.out z (by rw [← hzk]; exact List.getElem_mem hkz)
      obtain ⟨N, rfl⟩ : ∃ N : Nat, z = (N : Int) := ⟨z.toNat, by omega⟩
      have hN : N < 9223372036854775808 := by omega
      have hwrap : IntKind.u64.wrap (N : Int) = (N : Int) := by rw [IntKind.wrap_u64]; omega
      have hQk := HXk.out.ap.whole HQ0.out HQP.out (by decide)
      have q0 : wr.cell? ⟨Q, k, none⟩ = some (.int .i64 (N : Int)) := by rw [hQk.cell, List.getElem?_map, List.getElem?_eq_getElem hkz, hzk]; rfl
      have lq := hQk.lt
      have hnx : encAll (zs.take (k + 1)) = encAll (zs.take k) ++ enc N := by rw [List.take_succ_eq_append_getElem hkz, hzk, encAll_append, encAll_one, Int.toNat_natCast]
      have hcl : (bs ++ encAll (zs.take k)).length ≤ 500000 := by have := encAll_len (zs.take k); rw [List.length_take] at this; rw [List.length_append]; omega
      have hel := (enc_len N).2
      have HNX : Hid (bs ++ encAll (zs.take (k + 1)) = (bs ++ encAll (zs.take k)) ++ enc N) := by unfold Hid; rw [hnx, List.append_assoc]
      obtain ⟨cs, hcs⟩ : ∃ cs, bs ++ encAll (zs.take k) = cs := ⟨_, rfl⟩
      rw [hcs] at HPk HNX hcl
      have HLX : Hid (x < wr.heap.size) := HPk.out.lt
      obtain ⟨v, hv, ho, hnb⟩ := HPk.out.ex
      have HNB := hide hnb
      have HV := hide hv
      have HO := hide ho
      have hv0 : Whole wr.drew p 31 [v] := hv.drew
      have HV0 := hide hv0
      clear hv ho hnb hcs hnx hQk hzk hkz
      go_wp2
      refine rgL (fun w' => w'.cell? ⟨p, 0, none⟩ = some v) 6 [(0, 1), (0, 2), (0, 0), (1, 3), (1, 4), (1, 5), (3, 6)] (hv0.cell 0) ?_
      refine stL (h := ?_)
      refine stL (hy := fun w hS => by have hN := hN; go_simp <;> with_reducible rfl) (h := ?_)
      refine stL (hy := fun w hS => by have hS := hS; go_simp <;> with_reducible rfl) (h := ?_)
      refine alL fun K hK => ?_
      go_wp2
      refine hK.out _ _ ((HV0.out.alloc _).cell 0) ?_
      clear hK K
      refine alL fun K hK => ?_
      go_wp2_with fail
      refine (nu_bytes_any _ _ _ [(N : Int)] _ (Ints.new .u64 wr.drew 45 [(N : Int)]) rfl (by simp) (by simp; omega)).mono ?_
      rintro e w2 ⟨x2, rfl, hx⟩
      obtain ⟨A2, c2, rfl, i2, n2, z2, -⟩ := hx.form2
      rw [encAll_one, Int.toNat_natCast] at i2 n2 ⊢
      have hb2 : Below wr.heap.size wr w2 := (((Below.refl wr.heap.size wr).drewN 1).alloc (Nat.le_refl _) (.cells #[.int .u64 (N : Int)] 45)).trans (hx.bel.mono (by simp))
      have HV2 := hide (HV.out.later hb2)
      have HO2 := hide ((HO.out.later hb2).now)
      have HI2 := hide i2
      have HZ2 := hide z2
      have HB2 := hide hb2
      clear hx i2 z2 hb2
      go_wp2
      refine hK.out _ _ (HV2.out.cell 0) ?_
      clear hK K
      refine alL fun K hK => ?_
      refine wpList_catAt elemBytes rfl _ _ rfl rfl rfl HO2.out HI2.out rfl HZ2.out (by omega) (by omega) ?_
      intro v3 w3 hown st hat
      have hbl3 : Below B w2 w3 := hown.bel
      have HA3 := hide (Ap.row (p := p) HO2.out hbl3 st)
      have HV3 := hide (Others.of HO2.out st p 31 _ (by decide) HV2.out)
      have HX3 : Hid (w3.heap[x]? = wr.heap[x]?) := (st.block x (Nat.lt_of_lt_of_le HLX.out HB2.out.size) (Ne.symm HNB.out)).trans (HB2.out.block x HLX.out)
      have HNB3 : Hid (v3.ownBlock ≠ some x) := by
        unfold Hid
        rcases hat with q | q
        · rw [q]; exact HNB.out
        · rw [q]; intro z; have := HB2.out.size; have := HLX.out; simp only [Option.some.injEq] at z; omega
      obtain ⟨A3, c3, hv3, -, -, -⟩ := hown.form
      obtain ⟨L3, hL3⟩ : ∃ L3, (cs ++ enc N).length = L3 := ⟨_, rfl⟩
      rw [hL3] at hv3
      subst hv3
      have HO3 := hide hown.now
      clear hown st hat hbl3
      go_wp2
      refine hK.out _ _ (HV3.out.cell 0) ?_
      clear hK K
      have e1 : w3.cell? ⟨p, 0, none⟩ = some v := HV3.out.cell 0
      have z1 := HV3.out.frozen 0
      have l3 := HV3.out.lt
      refine laL fun K hK => ?_
      go_wp2
      refine hK.out _ _ ?_
      clear hK K
      refine chainL_nil ?_
      have hst : Stay5 w3 (w3.setCell ⟨p, 0, none⟩ (.slice A3 L3 c3)) := Stay5.put HV3.out
      have HP4 : Hid (Ptx B p x (w3.setCell ⟨p, 0, none⟩ (.slice A3 L3 c3)) (cs ++ enc N)) := ⟨⟨_, HV3.out.put 0 _, hst.own HO3.out (by simp [World.setCell]), HNB3.out⟩, HBP.out, HXP.out, by show x < (w3.setCell ⟨p, 0, none⟩ (.slice A3 L3 c3)).heap.size; have := HLX.out; have := HB2.out.size; have := HA3.out.size; simp [World.setCell]; omega⟩
      have HX4 : Hid (Px B p x w (w3.setCell ⟨p, 0, none⟩ (.slice A3 L3 c3))) := by
        refine HXk.out.trans ⟨((Ap.of_below HB2.out HO.out.le).trans HA3.out).trans (Ap.put HBP.out), ?_⟩
        exact (Below.heap_setCell w3 ⟨p, 0, none⟩ (.slice A3 L3 c3) x HXP.out).trans HX3.out
      clear hst hv0
      go_wp2
      go_roundw
      case rel => exact ⟨k + 1, by omega, by go_num, by rw [HNX.out]; exact HP4, HX4⟩
      case measure => simp [intOf]; omega
    · obtain rfl : k = n := by omega
      have HF : Hid (zs.take k = zs) := by unfold Hid; rw [← HN.out]; exact List.take_length
      go_wp2
      go_end0
      rw [HF.out] at HPk
      exact ⟨rfl, HPk.out, HXk.out⟩
end Go.Proofs.YthogcfjlipaekaaDoor
