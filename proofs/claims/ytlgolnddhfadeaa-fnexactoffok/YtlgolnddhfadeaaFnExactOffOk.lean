/- For every list of numbers the law of OffOk answers true: the program's OffOk and its model answer alike, and no number of the list is turned. No condition. -/
import Derived.Test.YtlgolnddhfadeaaErrs
import Derived.ShutString
import Derived.Lib.SmallJoins
import Derived.Test.YtlgolnddhfadeaaHnOff
namespace Go.Proofs.Ytlgolnddhfadeaa.fnExactOffOk
open Go.ChangeShapes Go.WideShapes Go.ChangeAt Go.RowKit Go.Joins
open Go.ChangeMaps (open_string shut_string)
set_option linter.unusedVariables false
set_option linter.unusedSimpArgs false

def IsRow (k : IntKind) (w : World) (a : Option Addr) (len cap : Nat) (zs : List Int) : Prop :=
  (a = none ∧ len = 0 ∧ cap = 0 ∧ zs = []) ∨
  ∃ x, a = some x ∧ len ≤ cap ∧ cap ≤ maxLen ∧ zs.length = cap ∧ (∀ i, i < zs.length → w.cell? (x.add i) = some (.int k (zs.getD i 0))) ∧ ∀ n ∈ zs, (Lit.int k n).wf = true

set_option maxRecDepth 100000 in
set_option maxHeartbeats 4000000 in
theorem walk (a0 : Option Addr) (len0 cap0 : Nat) (z0 : List Int) (w : World) (w0 : IsRow .i64 w a0 len0 cap0 z0)   :
    Calls Try.prog 3 #[.slice a0 len0 cap0] w fun e w' => e = .returned (.bool true) ∧ Below w.heap.size w w' := by
  obtain ⟨ys, hlen, I, hm⟩ : ∃ ys : List Int, ys.length = len0 ∧ Hn.Ints w a0 ys ∧ ys.length ≤ maxLen := by
    rcases w0 with ⟨rfl, rfl, rfl, rfl⟩ | ⟨x, rfl, h1, h2, h3, h4, -⟩
    · exact ⟨[], rfl, Or.inl rfl, by simp⟩
    · obtain ⟨ys, e, I⟩ := Hn.ints_row (len := len0) (by omega) h4
      exact ⟨ys, e, I, by omega⟩
  subst hlen
  clear w0
  by_cases hb : ys.length ≤ 1048576
  · have hd : decide ((1048576 : Int) < (ys.length : Int)) = false := decide_eq_false (by omega)
    have HS : Hid (∀ (a : Option Addr) (cap : Nat) (W : World), Hn.Ints W a ys → _) := fun a cap W h => Hn.specOff_val a ys cap W hb h
    have HI : Hid (∀ (a : Option Addr) (cap : Nat) (W : World), Hn.Ints W a ys → _) := fun a cap W h => Hn.implOff_val a ys cap W hb h
    generalize Hn.offB ys = B at *
    have hnb : (B != B) = false := by simp
    clear hm
    go_enter Try.func3, Try.ntmps3
    go_wp2_with fail
    refine (Hn.toIntS_val a0 ys cap0 _ hb I).mono ?_
    rintro e w1 ⟨rfl, L1, I1, -, -⟩
    go_wp2_with fail
    refine (HS.out _ _ _ I1).mono ?_
    rintro e w2 ⟨rfl, D2⟩
    have K2 : Below w.heap.size w w2 := Pk.join_below L1 (D2.below _)
    clear L1 I1 D2
    go_wp2_with fail
    refine (Hn.toIntS_val a0 ys cap0 _ hb (I.on K2)).mono ?_
    rintro e w3 ⟨rfl, L3, I3, -, -⟩
    have K3 := Pk.join_below K2 L3
    clear K2 L3
    go_wp2_with fail
    refine (HI.out _ _ _ I3).mono ?_
    rintro e w4 ⟨rfl, rfl⟩
    go_wp2_with fail
    refine (Hn.toIntS_val a0 ys cap0 _ hb (I.on K3)).mono ?_
    rintro e w5 ⟨rfl, L5, I5, -, -⟩
    have K5 := Pk.join_below K3 L5
    have J5 := I3.on L5
    clear K3 L5 I3
    go_wp2_with fail
    refine (Hn.eqIntS_same _ _ ys _ _ _ hb J5 I5).mono ?_
    rintro e w6 ⟨rfl, D6⟩
    have K6 := Pk.join_below K5 (D6.below _)
    go_wp2
    go_ret
    exact ⟨rfl, K6⟩
  · have hd : decide ((1048576 : Int) < (ys.length : Int)) = true := decide_eq_true (by omega)
    clear hb hm
    go_enter Try.func3, Try.ntmps3
    go_wp2
    go_ret
    exact ⟨rfl, Below.refl _ _⟩

set_option maxRecDepth 100000 in
theorem contract (H : Type) (enc : TypeId × Value → H) (W : World) (base : Nat) (args : Array Value) (ds gs : List (DataW H)) (before : List MemPlace)
    (hval : ∀ (j : Nat) t v, Try.f3.params[j]? = some t → args[j]? = some v → Value.okWide Try.prog W .any base t v)
    (hW : DataW.Whole enc Try.prog Try.f3.params.toList Rows.fnExactOffOkSpec.vars false W args.toList ds gs before) :
    Calls Try.prog 3 args W fun e W' => ∃ v, e = .returned v ∧ Rows.fnExactOffOkSpec.post enc Try.prog Try.f3 false true false false W args v W' := by
  have hW' := hW
  obtain ⟨p, q, hA0, hV, rfl, hfz, hnd⟩ := hW
  have hA : DataW.TrodAll enc Try.prog W 0 (fun _ => true) true Try.f3.params.toList args.toList ds p := hA0
  rw [Try.params3] at hA hval
  obtain ⟨v0, vs0, d0, ds0, p0, q0, hargs, rfl, rfl, h0, r0⟩ := trodAll_cons hA
  obtain ⟨rfl, rfl, rfl⟩ := trodAll_nil r0
  obtain rfl : args = #[v0] := by cases args; simp_all
  obtain ⟨rfl, rfl⟩ := trodVars_none hV
  have k0 := h0
  have lt0 : ∀ x ∈ p0, x.block < W.heap.size := by obtain ⟨m, hm⟩ := k0; exact DataW.trod_lt m _ _ _ hm
  obtain ⟨a0, len0, cap0, rfl⟩ := okWide_slice Try.underlying22 (hval 0 22 v0 rfl rfl)
  obtain ⟨z0, w0⟩ : ∃ zs, IsRow .i64 W a0 len0 cap0 zs := by
    obtain ⟨fuel, hf⟩ := h0
    rcases open_ints Try.underlying22 Try.underlying3 (by kernel_rfl) hf with ⟨hcs, _⟩ | ⟨x, l, c, zs, hcs, _, hl, hm, hz, _, hcell, hwz⟩
    · simp [Value.cells] at hcs
      obtain ⟨rfl, rfl, rfl⟩ := hcs
      exact ⟨[], .inl ⟨rfl, rfl, rfl, rfl⟩⟩
    · simp [Value.cells] at hcs
      obtain ⟨rfl, rfl, rfl⟩ := hcs
      exact ⟨zs, .inr ⟨_, rfl, hl, hm, by simpa using hz, hcell, hwz⟩⟩
  clear hA0
  refine (walk a0 len0 cap0 z0 W w0  ).mono fun e W' ⟨he, bel⟩ => ?_
  subst he
  exact ⟨_, rfl, _, _, _, [], _, [], hW', trodAll_mk1 (shut_bool Try.underlying4 _), (trodAll_cons_mk (Below.trod Errs.laidOut (by kernel_rfl) (of_decide_eq_true (by kernel_rfl)) k0 bel lt0) trodAll_mk0), rfl, bel.frame _, fun h => by cases h⟩

set_option maxRecDepth 100000 in
theorem lifted (os : Os) (started : os.Started) (H : Type) (enc : TypeId × Value → H) :
    ReturnsInHanded {} Try.checked os 3 .any (Rows.fnExactOffOkSpec.pre6 enc Try.prog Try.f3 Rows.fnExactOffOkRow.domain false) (Rows.fnExactOffOkSpec.post enc Try.prog Try.f3 false true false false) := by
  refine returnsInHanded_of_change (C := Try.checked) Errs.own started (by kernel_rfl) Try.func3
    (ChangeSpec.witness6 (enc := enc) (C := Try.checked) false ⟨#[], #[.slice none 0 0], []⟩ 8 (by kernel_rfl) (by kernel_rfl) (by kernel_rfl) (by kernel_rfl)) ?_
  intro W base args ds gs before hval hW _ _
  exact contract H enc W base args ds gs before hval hW

set_option maxRecDepth 100000 in
theorem over : Rows.fnExactOffOkRow.holds Try.pinned (OpenSpec.ofChange Rows.fnExactOffOkSpec) :=
  OpenClaim.holds_of_wide 3 Try.f3 rfl rfl rfl rfl rfl rfl rfl ⟨rfl, rfl, rfl, rfl, rfl⟩ rfl rfl rfl rfl rfl (by kernel_rfl) Try.func3 (by kernel_rfl)
    (of_decide_eq_true (by kernel_rfl)) (by unfold Func.isWrapper; first | (rw [if_pos (by decide +kernel)]; kernel_rfl) | (rw [if_neg (by decide +kernel)]; exact ⟨rfl, rfl⟩))
    (fun os started H enc _ => lifted os started H enc)
end Go.Proofs.Ytlgolnddhfadeaa.fnExactOffOk
namespace Go.Proofs.Ytlgolnddhfadeaa
theorem FnExactOffOk_holds : Rows.FnExactOffOkSaid := fnExactOffOk.over
end Go.Proofs.Ytlgolnddhfadeaa
