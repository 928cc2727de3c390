/- For every code the law of FnUnpack answers true: what is drawn is unpacked as its model unpacks it, within its bound; what is unpacked well is none when it is cut off, and has a rest when a byte stands behind it. The program's table of runs is as its text lays it (the card ties it; over a pruned copy of the project). -/
import Derived.Test.YtcifgableeeooabDoorErrs
import Derived.Test.YtcifgableeeooabDoorPkRuns
import Derived.ShutString
import Derived.Lib.SmallJoins
import Derived.Test.YtcifgableeeooabDoorCards
import Derived.Test.YtcifgableeeooabDoorTie
import Derived.Test.YtcifgableeeooabDoorCurUnp
import Derived.Test.YtcifgableeeooabDoorMathUnm
import Derived.Test.YtcifgableeeooabDoorManyFnUnpack
namespace Go.Proofs.YtcifgableeeooabDoor.fnUnpack
open Go.ChangeShapes Go.WideShapes Go.ChangeAt Go.RowKit Go.Joins
open Go.ChangeMaps (open_string shut_string)
set_option linter.unusedVariables false
set_option linter.unusedSimpArgs false

def IsRow (k : IntKind) (w : World) (a : Option Addr) (len cap : Nat) (zs : List Int) : Prop :=
  (a = none ∧ len = 0 ∧ cap = 0 ∧ zs = []) ∨
  ∃ x, a = some x ∧ len ≤ cap ∧ cap ≤ maxLen ∧ zs.length = cap ∧ (∀ i, i < zs.length → w.cell? (x.add i) = some (.int k (zs.getD i 0))) ∧ ∀ n ∈ zs, (Lit.int k n).wf = true

set_option maxRecDepth 100000 in
set_option maxHeartbeats 4000000 in
theorem walk (a0 : Option Addr) (len0 cap0 : Nat) (z0 : List Int) (w : World) (w0 : IsRow .u8 w a0 len0 cap0 z0) (R : Pk.Runs w)  :
    Calls Tryd.prog 5 #[.slice a0 len0 cap0] w fun e w' => e = .returned (.bool true) ∧ Below w.heap.size w w' := by
  by_cases hb : len0 ≤ 1048576
  · have B := Cur.bytes_of w a0 len0 cap0 z0 w0
    clear w0
    go_enter Tryd.func5, Tryd.ntmps5
    go_wp2_with fail
    refine (Cur.big_no a0 len0 cap0 _ hb).mono ?_
    rintro e w1 ⟨rfl, rfl⟩
    go_wp2_with fail
    refine (Cur.drawUnpack _ a0 len0 cap0 hb B).mono ?_
    rintro e w2 ⟨⟨u, rfl, hu⟩, L2⟩
    have hu2 : u.size ≤ maxLen := by unfold maxLen; omega
    have R2 := R.on L2 R.lt
    have B2 := B.on L2
    clear R B
    go_wp2_with fail
    refine (Pk.implUnpack_val u _ R2).mono ?_
    rintro e w3 ⟨rfl, L3⟩
    have R3 := R2.on L3 R2.lt
    have B3 := B2.on L3
    have L4 := Pk.join_below L2 L3
    clear R2 L2 L3 B2
    go_wp2_with fail
    refine (Pk.specUnpack_val u _ hu2).mono ?_
    rintro e w4 ⟨rfl, L5⟩
    have R4 := R3.on L5 R3.lt
    have B4 := B3.on L5
    have L6 := Pk.join_below L4 L5
    clear R3 L4 L5 B3
    have hbd := Math.unp_bound u
    have hbI : ¬ (3000 : Int) < ((Math.unpT u).size : Int) := by omega
    by_cases hc : Math.unpC u = 0
    · have hz := (Math.unp_is u hc).2.1
      have HCUT : Hid (∀ k, k < u.size → Math.unpC (u.extract 0 k) ≠ 0) := fun k hk => Math.unp_cut u hc k hk
      have hx1 : (⟨#[120]⟩ : ByteArray).size = 1 := rfl
      have hmore := Math.unp_more u ⟨#[120]⟩ hc (by rw [hx1]; omega) (by rw [hx1]; omega)
      obtain ⟨X, hX⟩ : ∃ X : ByteArray, u ++ ⟨#[120]⟩ = X := ⟨_, rfl⟩
      rw [hX] at hmore
      have HU : Hid (∀ (W : World) (r : Pk.Runs W), _) := fun W r => Pk.implUnpack_val X W r
      rw [hmore] at HU
      have HX : Hid (u ++ ⟨#[120]⟩ = X) := hX
      have HK : Hid (∀ (k : Nat) (W : World) (r : Pk.Runs W), _) := fun k W r => Pk.implUnpack_val (u.extract 0 k) W r
      rw [hc]
      generalize Math.unpT X = TX at *
      generalize Math.unpT u = T at *
      clear hmore hc hbd hX
      go_wp2_with fail
      refine (Cur.at_any a0 len0 cap0 3 _ hb (by omega) B4).mono ?_
      rintro e w5 ⟨⟨x, rfl, hx0, hxm⟩, rfl⟩
      obtain ⟨k, hk, hks⟩ : ∃ k : Nat, x % (u.size : Int) = k ∧ k < u.size := by
        have h1 := Int.emod_nonneg x (show (u.size : Int) ≠ 0 by omega)
        have h2 := Int.emod_lt_of_pos x (show 0 < (u.size : Int) by omega)
        exact ⟨(x % (u.size : Int)).toNat, by omega, by omega⟩
      have hk2 : x.tmod (u.size : Int) = k := by rw [Int.tmod_eq_emod_of_nonneg hx0]; exact hk
      have hu0 : ¬ ((u.size : Int) = 0) := by omega
      have hu0' : ((u.size : Int) == 0) = false := beq_eq_false_iff_ne.2 hu0
      have hk0 : (0 : Int) ≤ (k : Int) := by omega
      have hk1 : (k : Int) ≤ (u.size : Int) := by omega
      have hC2 := HCUT.out k hks
      have HK2 : Hid (∀ (W : World) (r : Pk.Runs W), _) := fun W r => HK.out k W r
      generalize Math.unpT (u.extract 0 k) = T2 at *
      generalize Math.unpC (u.extract 0 k) = C2 at *
      have hC3 : ((C2 : Int) == 0) = false := beq_eq_false_iff_ne.2 (by omega)
      have hC4 : ¬ ((C2 : Int) = 0) := by omega
      have hq : ¬ 9223372036854775807 < u.size + (⟨#[120]⟩ : ByteArray).size := by rw [hx1]; omega
      clear HCUT HK hk hC2
      go_wp2_with fail
      refine (HK2.out _ R4).mono ?_
      rintro e w6 ⟨rfl, L7⟩
      have R6 := R4.on L7 R4.lt
      have L8 := Pk.join_below L6 L7
      clear R4 L6 L7 B4
      go_wp2_with fail
      rw [HX.out]
      refine (HU.out _ R6).mono ?_
      rintro e w7 ⟨rfl, L9⟩
      have L10 := Pk.join_below L8 L9
      go_wp2
      go_ret
      have hC5 : ¬ C2 = 0 := by omega
      exact ⟨by simp [hC5], L10⟩
    · have hT := Math.unpT_no hc
      rw [hT]
      generalize Math.unpC u = C at *
      have hC3 : ((C : Int) == 0) = false := beq_eq_false_iff_ne.2 (by omega)
      have hC4 : ¬ ((C : Int) = 0) := by omega
      clear hT hc hbd hbI
      go_wp2
      go_ret
      exact ⟨rfl, L6⟩
  · go_enter Tryd.func5, Tryd.ntmps5
    go_wp2_with fail
    refine (Cur.big_yes a0 len0 cap0 _ hb).mono ?_
    rintro e w1 ⟨rfl, rfl⟩
    go_wp2
    go_ret
    exact ⟨rfl, Below.refl _ _⟩

theorem errs {W : World} (hL : laidMetH Tryd.prog Rows.fnUnpackRow.laid W) : Pk.Runs W := by
  have h0 : laidMet Tryd.prog [("loop.example/g00211/impl.fixedRuns", Rows.laid_loop_example_g00211_impl_fixedRuns)] W := hL
  exact Pk.runs_of h0

set_option maxRecDepth 100000 in
theorem contract (H : Type) (enc : TypeId × Value → H) (W : World) (base : Nat) (args : Array Value) (ds gs : List (DataW H)) (before : List MemPlace)
    (hval : ∀ (j : Nat) t v, Tryd.f5.params[j]? = some t → args[j]? = some v → Value.okWide Tryd.prog W .any base t v)
    (hW : DataW.Whole enc Tryd.prog Tryd.f5.params.toList Rows.fnUnpackSpec.vars false W args.toList ds gs before) (hL : laidMetH Tryd.prog Rows.fnUnpackRow.laid W) :
    Calls Tryd.prog 5 args W fun e W' => ∃ v, e = .returned v ∧ Rows.fnUnpackSpec.post enc Tryd.prog Tryd.f5 false true false false W args v W' := by
  have hW' := hW
  obtain ⟨p, q, hA0, hV, rfl, hfz, hnd⟩ := hW
  have hA : DataW.TrodAll enc Tryd.prog W 0 (fun _ => true) true Tryd.f5.params.toList args.toList ds p := hA0
  rw [Tryd.params5] at hA hval
  obtain ⟨v0, vs0, d0, ds0, p0, q0, hargs, rfl, rfl, h0, r0⟩ := trodAll_cons hA
  obtain ⟨rfl, rfl, rfl⟩ := trodAll_nil r0
  obtain rfl : args = #[v0] := by cases args; simp_all
  have hlen := Errs.vars_len hV
  obtain ⟨g0, gs0, rfl, hl0⟩ := Errs.len_cons hlen
  obtain rfl := List.length_eq_zero_iff.1 hl0
  have k0 := h0
  have lt0 : ∀ x ∈ p0, x.block < W.heap.size := by obtain ⟨m, hm⟩ := k0; exact DataW.trod_lt m _ _ _ hm
  obtain ⟨a0, len0, cap0, rfl⟩ := okWide_slice Tryd.underlying22 (hval 0 22 v0 rfl rfl)
  obtain ⟨z0, w0⟩ : ∃ zs, IsRow .u8 W a0 len0 cap0 zs := by
    obtain ⟨fuel, hf⟩ := h0
    rcases open_ints Tryd.underlying22 Tryd.underlying5 (by kernel_rfl) hf with ⟨hcs, _⟩ | ⟨x, l, c, zs, hcs, _, hl, hm, hz, _, hcell, hwz⟩
    · simp [Value.cells] at hcs
      obtain ⟨rfl, rfl, rfl⟩ := hcs
      exact ⟨[], .inl ⟨rfl, rfl, rfl, rfl⟩⟩
    · simp [Value.cells] at hcs
      obtain ⟨rfl, rfl, rfl⟩ := hcs
      exact ⟨zs, .inr ⟨_, rfl, hl, hm, by simpa using hz, hcell, hwz⟩⟩
  clear hA0
  refine (walk a0 len0 cap0 z0 W w0 (errs hL) ).mono fun e W' ⟨he, bel⟩ => ?_
  subst he
  exact ⟨_, rfl, _, _, _, [], _, _, hW', trodAll_mk1 (shut_bool Tryd.underlying4 _), (trodAll_cons_mk (Below.trod Errs.laidOut (by kernel_rfl) (of_decide_eq_true (by kernel_rfl)) k0 bel lt0) trodAll_mk0), (Below.trodVars Errs.laidOut bel (by kernel_rfl) hV), bel.frame _, fun h => by cases h⟩

theorem laid_met (os : Os) : laidMet Tryd.prog Rows.fnUnpackRow.laid ((Pk.runsW (World.holding Tryd.prog os ⟨#[], #[], []⟩)).forCall (fun _ _ => 0) ⟨#[], #[.slice none 0 0], []⟩).memory :=
  laidMet_of_run' 8 (by kernel_rfl) (by kernel_rfl)

theorem reads (os : Os) {H : Type} (enc : TypeId × Value → H) : ∃ x, DataW.whole enc Tryd.prog ((Pk.runsW (World.holding Tryd.prog os ⟨#[], #[], []⟩)).forCall (fun _ _ => 0) ⟨#[], #[.slice none 0 0], []⟩).memory Tryd.f5.params.toList Rows.fnUnpackSpec.vars false (#[.slice none 0 0] : Array Value).toList 8 = some x :=
  Option.isSome_iff_exists.1 (by kernel_rfl)

set_option maxRecDepth 100000 in
theorem lifted (os : Os) (started : os.Started) (H : Type) (enc : TypeId × Value → H) (F : Stop.Interp) :
    ReturnsInHanded {} Tryd.checked os 5 .any ((OpenSpec.ofChange Rows.fnUnpackSpec).preRow enc Tryd.prog Tryd.f5 Rows.fnUnpackRow.domain false Rows.fnUnpackRow.laid) (((OpenSpec.ofChange Rows.fnUnpackSpec).at F).post enc Tryd.prog Tryd.f5 false true false false) := by
  obtain ⟨x, hx⟩ := reads os enc
  refine returnsInHanded_of_row (C := Tryd.checked) (s := OpenSpec.ofChange Rows.fnUnpackSpec) Errs.own started (by kernel_rfl) Tryd.func5
    (witness_row_at (enc := enc) (C := Tryd.checked) false (Pk.runsW (World.holding Tryd.prog os ⟨#[], #[], []⟩)) #[.slice none 0 0] rfl (by kernel_rfl) (by kernel_rfl) (by kernel_rfl)
      (OpenSpec.preRow_of_cond 8 hx rfl (fun k hk => by cases hk) (by kernel_rfl) (laid_met os))) ?_
  intro W base args ds gs before hval hW _ _ _ hL _ _
  exact contract H enc W base args ds gs before hval hW hL

set_option maxRecDepth 100000 in
theorem said : Rows.FnUnpackSaid :=
  OpenClaim.holds_of_cond 5 Tryd.f5 rfl rfl rfl rfl rfl rfl rfl ⟨rfl, rfl, rfl, rfl, rfl⟩ rfl rfl rfl rfl rfl (by kernel_rfl) Tryd.func5 (by kernel_rfl)
    (of_decide_eq_true (by kernel_rfl)) (by unfold Func.isWrapper; first | (rw [if_pos (by decide +kernel)]; kernel_rfl) | (rw [if_neg (by decide +kernel)]; exact ⟨rfl, rfl⟩))
    (fun os started H enc _ F => by rw [OpenClaim.pre_eq_preRow]; exact lifted os started H enc F)

theorem plain (f : FuncId) (fn : Func) (hf : Tryd.pinned.checked.prog.funcNamed "loop.example/g00211/laws.FnUnpack" = some f) (hfn : Tryd.pinned.checked.prog.funcs[f]? = some fn) :
    true = Tryd.pinned.checked.prog.looks [] ∧ ∀ (j : Nat) t, fn.params[j]? = some t → Tryd.pinned.checked.prog.wantsStandIn t = false := by
  obtain rfl : f = 5 := Option.some.inj ((show Tryd.prog.funcNamed "loop.example/g00211/laws.FnUnpack" = some 5 by kernel_rfl).symm.trans hf) |>.symm
  obtain rfl : fn = Tryd.f5 := (Option.some.inj (Tryd.func5.symm.trans hfn)).symm
  refine ⟨by kernel_rfl, fun j t ht => ?_⟩
  rw [Tryd.params5] at ht
  obtain rfl : t = 22 := by simpa using Array.mem_of_getElem? ht
  exact (show Tryd.prog.wantsStandIn 22 = false by kernel_rfl)

theorem card : Rows.FnUnpackCardSaid :=
  Claim7.holds_tied_plain_at .later [] _ _ _ _ said (fun _ h => by cases h) (by kernel_rfl) (fun _ h => by cases h) fnUnpack_row_tie rfl ⟨rfl, rfl⟩ (by kernel_rfl) rfl plain (by kernel_rfl)
end Go.Proofs.YtcifgableeeooabDoor.fnUnpack
namespace Go.Proofs.YtcifgableeeooabDoor
theorem FnUnpack_holds : Rows.FnUnpackCardSaid := fnUnpack.card
end Go.Proofs.YtcifgableeeooabDoor
