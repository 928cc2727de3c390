/- For every text the law of ReadMark answers true: the program's ReadMark and its model return the same. No condition. -/
import Derived.Test.YthdenegheninaaiErrs
import Derived.ShutString
import Derived.Lib.SmallJoins
import Derived.Test.YthdenegheninaaiSignRead
namespace Go.Proofs.Ythdenegheninaai.fnExactReadMark
open Go.ChangeShapes Go.WideShapes Go.ChangeAt Go.RowKit Go.Joins
open Go.ChangeMaps (open_string shut_string)
set_option linter.unusedVariables false

theorem jb {w w1 w2 : World} (h : Below w.heap.size w w1) (k : Below w1.heap.size w1 w2) : Below w.heap.size w w2 := h.trans (k.mono h.size)

theorem nb (w : World) (o : Obj) : Below w.heap.size w (w.alloc o) := (Below.refl _ _).alloc (Nat.le_refl _) _

theorem kept {X w4 : World} {n : Nat} {o : Obj} (L : Below X.heap.size X w4) (h : X.heap[n]? = some o) : w4.heap[n]? = some o := by rw [L.block n (Array.getElem?_eq_some_iff.1 h).1, h]


set_option maxHeartbeats 1000000 in
theorem walk (a0 : ByteArray) (w0 : a0.size ≤ maxLen) (w : World)   :
    Calls Try.prog 4 #[.string a0] w fun e w' => e = .returned (.bool true) ∧ Below w.heap.size w w' := by
  by_cases hb : a0.size ≤ 1048576
  · go_enter Try.func4, Try.ntmps4
    go_wp2_with fail
    have HI : Hid (∀ w, _) := fun w => Num.implReadMark_val a0 w w0
    refine (Num.specReadMark_val a0 _ w0).mono ?_
    generalize Num.rmR a0 = r at *
    generalize Num.rmS a0 = s at *
    generalize decide (a0.size = 8) = b at *
    rintro e x1 ⟨rfl, L1⟩
    have m1 := Num.rd_new x1 (.cells #[.int .i64 r, .int .i64 s] 25)
    have L2 := jb L1 (nb x1 (.cells #[.int .i64 r, .int .i64 s] 25))
    go_wp2_with fail
    refine (HI.out _).mono ?_
    rintro e x2 ⟨rfl, L3⟩
    have L4 := jb L3 (nb x2 (.cells #[.int .i64 r, .int .i64 s] 25))
    have m2 := kept L4 m1
    have d0 : (x2.alloc (.cells #[.int .i64 r, .int .i64 s] 25)).cell? ⟨x1.heap.size, 0, none⟩ = some (.int .i64 r) := Num.rd_cell m2 0
    have d1 : (x2.alloc (.cells #[.int .i64 r, .int .i64 s] 25)).cell? ⟨x1.heap.size, 1, none⟩ = some (.int .i64 s) := Num.rd_cell m2 1
    have L5 := jb L2 L4
    clear m1 m2 L1 L2 L3 L4
    go_wp2_with fail
    refine (Num.rd_eqMark r s _).mono ?_
    rintro e x3 ⟨rfl, L6⟩
    have L7 := jb L5 L6
    clear L5 L6 d0 d1 HI
    cases b
    all_goals
      go_wp2
      go_ret
      exact ⟨rfl, L7⟩
  · go_enter Try.func4, Try.ntmps4
    go_wp2
    go_ret
    exact ⟨rfl, Below.refl _ _⟩

set_option maxRecDepth 100000 in
theorem contract (H : Type) (enc : TypeId × Value → H) (W : World) (base : Nat) (args : Array Value) (ds gs : List (DataW H)) (before : List MemPlace)
    (hval : ∀ (j : Nat) t v, Try.f4.params[j]? = some t → args[j]? = some v → Value.okWide Try.prog W .any base t v)
    (hW : DataW.Whole enc Try.prog Try.f4.params.toList Rows.fnExactReadMarkSpec.vars false W args.toList ds gs before) :
    Calls Try.prog 4 args W fun e W' => ∃ v, e = .returned v ∧ Rows.fnExactReadMarkSpec.post enc Try.prog Try.f4 false true false false W args v W' := by
  have hW' := hW
  obtain ⟨p, q, hA0, hV, rfl, hfz, hnd⟩ := hW
  have hA : DataW.TrodAll enc Try.prog W 0 (fun _ => true) true Try.f4.params.toList args.toList ds p := hA0
  rw [Try.params4] at hA hval
  obtain ⟨v0, vs0, d0, ds0, p0, q0, hargs, rfl, rfl, h0, r0⟩ := trodAll_cons hA
  obtain ⟨rfl, rfl, rfl⟩ := trodAll_nil r0
  obtain rfl : args = #[v0] := by cases args; simp_all
  obtain ⟨rfl, rfl⟩ := trodVars_none hV
  have k0 := h0
  have lt0 : ∀ x ∈ p0, x.block < W.heap.size := by obtain ⟨m, hm⟩ := k0; exact DataW.trod_lt m _ _ _ hm
  obtain ⟨a0, rfl, rfl, rfl, w0⟩ := open_string Try.underlying9 (hval 0 9 v0 rfl rfl) h0
  clear hA0
  refine (walk a0 w0 W  ).mono fun e W' ⟨he, bel⟩ => ?_
  subst he
  exact ⟨_, rfl, _, _, _, [], _, [], hW', trodAll_mk1 (shut_bool Try.underlying4 _), (trodAll_cons_mk (Below.trod Errs.laidOut (by kernel_rfl) (of_decide_eq_true (by kernel_rfl)) k0 bel lt0) trodAll_mk0), rfl, bel.frame _, fun h => by cases h⟩

theorem lifted (os : Os) (started : os.Started) (H : Type) (enc : TypeId × Value → H) :
    ReturnsInHanded {} Try.checked os 4 .any (Rows.fnExactReadMarkSpec.pre6 enc Try.prog Try.f4 Rows.fnExactReadMarkRow.domain false) (Rows.fnExactReadMarkSpec.post enc Try.prog Try.f4 false true false false) := by
  refine returnsInHanded_of_change (C := Try.checked) Errs.own started (by kernel_rfl) Try.func4
    (ChangeSpec.witness6 (enc := enc) (C := Try.checked) false ⟨#[], #[.string ByteArray.empty], []⟩ 8 (by kernel_rfl) (by kernel_rfl) (by kernel_rfl) (by kernel_rfl)) ?_
  intro W base args ds gs before hval hW _ _
  exact contract H enc W base args ds gs before hval hW

theorem over : Rows.fnExactReadMarkRow.holds Try.pinned (OpenSpec.ofChange Rows.fnExactReadMarkSpec) :=
  OpenClaim.holds_of_wide 4 Try.f4 rfl rfl rfl rfl rfl rfl rfl ⟨rfl, rfl, rfl, rfl, rfl⟩ rfl rfl rfl rfl rfl (by kernel_rfl) Try.func4 (by kernel_rfl)
    (of_decide_eq_true (by kernel_rfl)) (by unfold Func.isWrapper; first | (rw [if_pos (by decide +kernel)]; kernel_rfl) | (rw [if_neg (by decide +kernel)]; exact ⟨rfl, rfl⟩))
    (fun os started H enc _ => lifted os started H enc)
end Go.Proofs.Ythdenegheninaai.fnExactReadMark
namespace Go.Proofs.Ythdenegheninaai
theorem FnExactReadMark_holds : Rows.FnExactReadMarkSaid := fnExactReadMark.over
end Go.Proofs.Ythdenegheninaai
