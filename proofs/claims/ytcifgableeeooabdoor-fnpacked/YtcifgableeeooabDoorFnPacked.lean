/- For every code the law of FnPacked answers true: the text drawn comes back from what the program packs of it, which is what its model packs, and from what it stores, and neither is much longer. The program's table of runs is as its text lays it (the card ties it; over a pruned copy of the project). -/
import Derived.Test.YtcifgableeeooabDoorErrs
import Derived.Test.YtcifgableeeooabDoorPkRuns
import Derived.ShutString
import Derived.Lib.SmallJoins
import Derived.Test.YtcifgableeeooabDoorCards
import Derived.Test.YtcifgableeeooabDoorTie
import Derived.Test.YtcifgableeeooabDoorCurPk
import Derived.Test.YtcifgableeeooabDoorPkPackI
import Derived.Test.YtcifgableeeooabDoorManyFnPacked
namespace Go.Proofs.YtcifgableeeooabDoor.fnPacked
open Go.ChangeShapes Go.WideShapes Go.ChangeAt Go.RowKit Go.Joins
open Go.ChangeMaps (open_string shut_string)
set_option linter.unusedVariables false
set_option linter.unusedSimpArgs false

def IsRow (k : IntKind) (w : World) (a : Option Addr) (len cap : Nat) (zs : List Int) : Prop :=
  (a = none ∧ len = 0 ∧ cap = 0 ∧ zs = []) ∨
  ∃ x, a = some x ∧ len ≤ cap ∧ cap ≤ maxLen ∧ zs.length = cap ∧ (∀ i, i < zs.length → w.cell? (x.add i) = some (.int k (zs.getD i 0))) ∧ ∀ n ∈ zs, (Lit.int k n).wf = true

set_option maxRecDepth 100000 in
set_option maxHeartbeats 4000000 in
theorem walk (a0 : Option Addr) (len0 cap0 : Nat) (z0 : List Int) (w : World) (w0 : IsRow .u8 w a0 len0 cap0 z0) (R : Pk.Runs w)  :
    Calls Tryd.prog 4 #[.slice a0 len0 cap0] w fun e w' => e = .returned (.bool true) ∧ Below w.heap.size w w' := by
  by_cases hb : len0 ≤ 1048576
  · have B := Cur.bytes_of w a0 len0 cap0 z0 w0
    clear w0
    go_enter Tryd.func4, Tryd.ntmps4
    go_wp2_with fail
    refine (Cur.big_no a0 len0 cap0 _ hb).mono ?_
    rintro e w1 ⟨rfl, rfl⟩
    go_wp2_with fail
    refine (Cur.drawPack _ a0 len0 cap0 hb B).mono ?_
    rintro e w2 ⟨⟨s, rfl, hs⟩, L2⟩
    have hs2 : s.size ≤ maxLen := by unfold maxLen; omega
    have R2 := R.on L2 R.lt
    clear R B
    go_wp2_with fail
    refine (Pk.implPack_val s _ hs2 R2).mono ?_
    rintro e w3 ⟨rfl, L3⟩
    have R3 := R2.on L3 R2.lt
    have L4 := Pk.join_below L2 L3
    clear R2 L2 L3
    go_wp2_with fail
    refine (Pk.specPack_val s _ hs2).mono ?_
    rintro e w4 ⟨rfl, L5⟩
    have R4 := R3.on L5 R3.lt
    have L6 := Pk.join_below L4 L5
    clear R3 L4 L5
    go_wp2_with fail
    refine (Pk.implStored_val s _ hs2).mono ?_
    rintro e w5 ⟨rfl, L7⟩
    have R5 := R4.on L7 R4.lt
    have L8 := Pk.join_below L6 L7
    clear R4 L6 L7
    by_cases h3 : s.size ≤ 3000
    · have hd : decide (s.size ≤ 3000) = true := decide_eq_true h3
      rw [hd]
      have hb1 := Math.packS_bound s h3
      have hz := Math.stored_size s h3
      obtain ⟨u1, u2⟩ := Math.unp_pack s h3
      obtain ⟨u3, u4⟩ := Math.unp_stored s h3
      have HU : Hid (∀ (W : World) (r : Pk.Runs W), _) := fun W r => Pk.implUnpack_val (Pk.packS s) W r
      have HV : Hid (∀ (W : World) (r : Pk.Runs W), _) := fun W r => Pk.implUnpack_val (Pk.storedS s) W r
      rw [u1, u2] at HU
      rw [u3, u4] at HV
      generalize Pk.packS s = P at *
      generalize Pk.storedS s = Q at *
      clear u1 u2 u3 u4 hd
      have q1 : (Q.size : Int) = (s.size : Int) + 5 := by omega
      have q2 : (P.size : Int) ≤ (s.size : Int) * 9 / 8 + 3 := by omega
      have q3 : wrap64 ((s.size : Int) * 9) = (s.size : Int) * 9 := by unfold wrap64; omega
      have q4 : Int.tdiv ((s.size : Int) * 9) 8 = (s.size : Int) * 9 / 8 := Int.tdiv_eq_ediv_of_nonneg (by omega)
      go_wp2_with fail
      refine (HU.out _ R5).mono ?_
      rintro e w6 ⟨rfl, L9⟩
      have R6 := R5.on L9 R5.lt
      have L10 := Pk.join_below L8 L9
      clear R5 L8 L9
      go_wp2_with fail
      refine (HV.out _ R6).mono ?_
      rintro e w7 ⟨rfl, L11⟩
      have L12 := Pk.join_below L10 L11
      clear R6 L10 L11
      go_wp2
      go_ret
      exact ⟨by simp [q1, q2, q3, q4], L12⟩
    · have hd : decide (s.size ≤ 3000) = false := decide_eq_false h3
      rw [hd, Pk.packS_no s h3, Pk.storedS_no s h3]
      clear hd
      go_wp2
      go_ret
      exact ⟨rfl, L8⟩
  · go_enter Tryd.func4, Tryd.ntmps4
    go_wp2_with fail
    refine (Cur.big_yes a0 len0 cap0 _ hb).mono ?_
    rintro e w1 ⟨rfl, rfl⟩
    go_wp2
    go_ret
    exact ⟨rfl, Below.refl _ _⟩

theorem errs {W : World} (hL : laidMetH Tryd.prog Rows.fnPackedRow.laid W) : Pk.Runs W := by
  have h0 : laidMet Tryd.prog [("loop.example/g00211/impl.fixedRuns", Rows.laid_loop_example_g00211_impl_fixedRuns)] W := hL
  exact Pk.runs_of h0

set_option maxRecDepth 100000 in
theorem contract (H : Type) (enc : TypeId × Value → H) (W : World) (base : Nat) (args : Array Value) (ds gs : List (DataW H)) (before : List MemPlace)
    (hval : ∀ (j : Nat) t v, Tryd.f4.params[j]? = some t → args[j]? = some v → Value.okWide Tryd.prog W .any base t v)
    (hW : DataW.Whole enc Tryd.prog Tryd.f4.params.toList Rows.fnPackedSpec.vars false W args.toList ds gs before) (hL : laidMetH Tryd.prog Rows.fnPackedRow.laid W) :
    Calls Tryd.prog 4 args W fun e W' => ∃ v, e = .returned v ∧ Rows.fnPackedSpec.post enc Tryd.prog Tryd.f4 false true false false W args v W' := by
  have hW' := hW
  obtain ⟨p, q, hA0, hV, rfl, hfz, hnd⟩ := hW
  have hA : DataW.TrodAll enc Tryd.prog W 0 (fun _ => true) true Tryd.f4.params.toList args.toList ds p := hA0
  rw [Tryd.params4] at hA hval
  obtain ⟨v0, vs0, d0, ds0, p0, q0, hargs, rfl, rfl, h0, r0⟩ := trodAll_cons hA
  obtain ⟨rfl, rfl, rfl⟩ := trodAll_nil r0
  obtain rfl : args = #[v0] := by cases args; simp_all
  have hlen := Errs.vars_len hV
  obtain ⟨g0, gs0, rfl, hl0⟩ := Errs.len_cons hlen
  obtain rfl := List.length_eq_zero_iff.1 hl0
  have k0 := h0
  have lt0 : ∀ x ∈ p0, x.block < W.heap.size := by obtain ⟨m, hm⟩ := k0; exact DataW.trod_lt m _ _ _ hm
  obtain ⟨a0, len0, cap0, rfl⟩ := okWide_slice Tryd.underlying22 (hval 0 22 v0 rfl rfl)
  obtain ⟨z0, w0⟩ : ∃ zs, IsRow .u8 W a0 len0 cap0 zs := by
    obtain ⟨fuel, hf⟩ := h0
    rcases open_ints Tryd.underlying22 Tryd.underlying5 (by kernel_rfl) hf with ⟨hcs, _⟩ | ⟨x, l, c, zs, hcs, _, hl, hm, hz, _, hcell, hwz⟩
    · simp [Value.cells] at hcs
      obtain ⟨rfl, rfl, rfl⟩ := hcs
      exact ⟨[], .inl ⟨rfl, rfl, rfl, rfl⟩⟩
    · simp [Value.cells] at hcs
      obtain ⟨rfl, rfl, rfl⟩ := hcs
      exact ⟨zs, .inr ⟨_, rfl, hl, hm, by simpa using hz, hcell, hwz⟩⟩
  clear hA0
  refine (walk a0 len0 cap0 z0 W w0 (errs hL) ).mono fun e W' ⟨he, bel⟩ => ?_
  subst he
  exact ⟨_, rfl, _, _, _, [], _, _, hW', trodAll_mk1 (shut_bool Tryd.underlying4 _), (trodAll_cons_mk (Below.trod Errs.laidOut (by kernel_rfl) (of_decide_eq_true (by kernel_rfl)) k0 bel lt0) trodAll_mk0), (Below.trodVars Errs.laidOut bel (by kernel_rfl) hV), bel.frame _, fun h => by cases h⟩

theorem laid_met (os : Os) : laidMet Tryd.prog Rows.fnPackedRow.laid ((Pk.runsW (World.holding Tryd.prog os ⟨#[], #[], []⟩)).forCall (fun _ _ => 0) ⟨#[], #[.slice none 0 0], []⟩).memory :=
  laidMet_of_run' 8 (by kernel_rfl) (by kernel_rfl)

theorem reads (os : Os) {H : Type} (enc : TypeId × Value → H) : ∃ x, DataW.whole enc Tryd.prog ((Pk.runsW (World.holding Tryd.prog os ⟨#[], #[], []⟩)).forCall (fun _ _ => 0) ⟨#[], #[.slice none 0 0], []⟩).memory Tryd.f4.params.toList Rows.fnPackedSpec.vars false (#[.slice none 0 0] : Array Value).toList 8 = some x :=
  Option.isSome_iff_exists.1 (by kernel_rfl)

set_option maxRecDepth 100000 in
theorem lifted (os : Os) (started : os.Started) (H : Type) (enc : TypeId × Value → H) (F : Stop.Interp) :
    ReturnsInHanded {} Tryd.checked os 4 .any ((OpenSpec.ofChange Rows.fnPackedSpec).preRow enc Tryd.prog Tryd.f4 Rows.fnPackedRow.domain false Rows.fnPackedRow.laid) (((OpenSpec.ofChange Rows.fnPackedSpec).at F).post enc Tryd.prog Tryd.f4 false true false false) := by
  obtain ⟨x, hx⟩ := reads os enc
  refine returnsInHanded_of_row (C := Tryd.checked) (s := OpenSpec.ofChange Rows.fnPackedSpec) Errs.own started (by kernel_rfl) Tryd.func4
    (witness_row_at (enc := enc) (C := Tryd.checked) false (Pk.runsW (World.holding Tryd.prog os ⟨#[], #[], []⟩)) #[.slice none 0 0] rfl (by kernel_rfl) (by kernel_rfl) (by kernel_rfl)
      (OpenSpec.preRow_of_cond 8 hx rfl (fun k hk => by cases hk) (by kernel_rfl) (laid_met os))) ?_
  intro W base args ds gs before hval hW _ _ _ hL _ _
  exact contract H enc W base args ds gs before hval hW hL

set_option maxRecDepth 100000 in
theorem said : Rows.FnPackedSaid :=
  OpenClaim.holds_of_cond 4 Tryd.f4 rfl rfl rfl rfl rfl rfl rfl ⟨rfl, rfl, rfl, rfl, rfl⟩ rfl rfl rfl rfl rfl (by kernel_rfl) Tryd.func4 (by kernel_rfl)
    (of_decide_eq_true (by kernel_rfl)) (by unfold Func.isWrapper; first | (rw [if_pos (by decide +kernel)]; kernel_rfl) | (rw [if_neg (by decide +kernel)]; exact ⟨rfl, rfl⟩))
    (fun os started H enc _ F => by rw [OpenClaim.pre_eq_preRow]; exact lifted os started H enc F)

theorem plain (f : FuncId) (fn : Func) (hf : Tryd.pinned.checked.prog.funcNamed "loop.example/g00211/laws.FnPacked" = some f) (hfn : Tryd.pinned.checked.prog.funcs[f]? = some fn) :
    true = Tryd.pinned.checked.prog.looks [] ∧ ∀ (j : Nat) t, fn.params[j]? = some t → Tryd.pinned.checked.prog.wantsStandIn t = false := by
  obtain rfl : f = 4 := Option.some.inj ((show Tryd.prog.funcNamed "loop.example/g00211/laws.FnPacked" = some 4 by kernel_rfl).symm.trans hf) |>.symm
  obtain rfl : fn = Tryd.f4 := (Option.some.inj (Tryd.func4.symm.trans hfn)).symm
  refine ⟨by kernel_rfl, fun j t ht => ?_⟩
  rw [Tryd.params4] at ht
  obtain rfl : t = 22 := by simpa using Array.mem_of_getElem? ht
  exact (show Tryd.prog.wantsStandIn 22 = false by kernel_rfl)

theorem card : Rows.FnPackedCardSaid :=
  Claim7.holds_tied_plain_at .later [] _ _ _ _ said (fun _ h => by cases h) (by kernel_rfl) (fun _ h => by cases h) fnPacked_row_tie rfl ⟨rfl, rfl⟩ (by kernel_rfl) rfl plain (by kernel_rfl)
end Go.Proofs.YtcifgableeeooabDoor.fnPacked
namespace Go.Proofs.YtcifgableeeooabDoor
theorem FnPacked_holds : Rows.FnPackedCardSaid := fnPacked.card
end Go.Proofs.YtcifgableeeooabDoor
