/-
  DERIVED. GIVEN WITH THE SEED: THE PROGRAM's TIES (one call each: nine closed facts by the kernel) AND EACH ROW's TIE, after the 31st guide's Derived/Test/Toyas{Tie, Card}.lean. No idea stands in it: it is a product of the set-up. Laid BY PROGRAM, IN A SANDBOX (cutbox-door.mjs). By AI agents, Wed Nov 11 2026. No macro, syntax, notation, axiom, sorry.
-/
import Derived.Test.YthdenegheninaaiDoorRows
import Derived.LaidByTextLater
import Derived.SevenTiedAt
import Derived.LaidSub
import Derived.LaidOnce
namespace Go.Proofs.YthdenegheninaaiDoor
open Go
set_option maxRecDepth 100000
theorem seatTie1 : Tryd.prog.laidByTextLater [("loop.example/g00211/impl.errParams", Rows.laid_loop_example_g00211_impl_errParams), ("loop.example/g00211/impl.errSecret", Rows.laid_loop_example_g00211_impl_errSecret), ("loop.example/g00211/impl.errOpen", Rows.laid_loop_example_g00211_impl_errOpen), ("loop.example/g00211/impl.errMark", Rows.laid_loop_example_g00211_impl_errMark), ("loop.example/g00211/impl.errText", Rows.laid_loop_example_g00211_impl_errText), ("loop.example/g00211/impl.errDraw", Rows.laid_loop_example_g00211_impl_errDraw)] [.sentinel, .sentinel, .sentinel, .sentinel, .sentinel, .sentinel] true :=
  Program.laidByTextLater_by_one 123 8 2 (by kernel_rfl) (by kernel_rfl) (by kernel_rfl) (by kernel_rfl) (by kernel_rfl) (by kernel_rfl) (fun _ _ => by kernel_rfl)
theorem noOwnUnsafe : Tryd.pinned.checked.prog.headLifts.contains "ownunsafe" = false := by kernel_rfl
theorem tie : Tryd.prog.laidByTextLater [("loop.example/g00211/impl.errParams", Rows.laid_loop_example_g00211_impl_errParams), ("loop.example/g00211/impl.errSecret", Rows.laid_loop_example_g00211_impl_errSecret)] [.sentinel, .sentinel] true :=
  Program.laidByTextLater.sub seatTie1 ["loop.example/g00211/impl.errParams", "loop.example/g00211/impl.errSecret"] (by kernel_rfl) (by kernel_rfl)
theorem fnExactOpenKey_row_tie : Rows.fnExactOpenKeyRow.laidByTextAt .later Tryd.pinned [.sentinel, .sentinel] true :=
  OpenClaim.laidByTextAt_later rfl rfl tie noOwnUnsafe
theorem tie2 : Tryd.prog.laidByTextLater [("loop.example/g00211/impl.errParams", Rows.laid_loop_example_g00211_impl_errParams), ("loop.example/g00211/impl.errSecret", Rows.laid_loop_example_g00211_impl_errSecret), ("loop.example/g00211/impl.errText", Rows.laid_loop_example_g00211_impl_errText), ("loop.example/g00211/impl.errDraw", Rows.laid_loop_example_g00211_impl_errDraw)] [.sentinel, .sentinel, .sentinel, .sentinel] true :=
  Program.laidByTextLater.sub seatTie1 ["loop.example/g00211/impl.errParams", "loop.example/g00211/impl.errSecret", "loop.example/g00211/impl.errText", "loop.example/g00211/impl.errDraw"] (by kernel_rfl) (by kernel_rfl)
theorem fnExactSignOnce_row_tie : Rows.fnExactSignOnceRow.laidByTextAt .later Tryd.pinned [.sentinel, .sentinel, .sentinel, .sentinel] true :=
  OpenClaim.laidByTextAt_later rfl rfl tie2 noOwnUnsafe
theorem fnExactSign_row_tie : Rows.fnExactSignRow.laidByTextAt .later Tryd.pinned [.sentinel, .sentinel, .sentinel, .sentinel] true :=
  OpenClaim.laidByTextAt_later rfl rfl tie2 noOwnUnsafe
theorem tie3 : Tryd.prog.laidByTextLater [("loop.example/g00211/impl.errParams", Rows.laid_loop_example_g00211_impl_errParams), ("loop.example/g00211/impl.errOpen", Rows.laid_loop_example_g00211_impl_errOpen), ("loop.example/g00211/impl.errMark", Rows.laid_loop_example_g00211_impl_errMark), ("loop.example/g00211/impl.errText", Rows.laid_loop_example_g00211_impl_errText)] [.sentinel, .sentinel, .sentinel, .sentinel] true :=
  Program.laidByTextLater.sub seatTie1 ["loop.example/g00211/impl.errParams", "loop.example/g00211/impl.errOpen", "loop.example/g00211/impl.errMark", "loop.example/g00211/impl.errText"] (by kernel_rfl) (by kernel_rfl)
theorem fnExactVerify_row_tie : Rows.fnExactVerifyRow.laidByTextAt .later Tryd.pinned [.sentinel, .sentinel, .sentinel, .sentinel] true :=
  OpenClaim.laidByTextAt_later rfl rfl tie3 noOwnUnsafe
theorem fnExactOpenKeyUpto_row_tie : Rows.fnExactOpenKeyUptoRow.laidByTextAt .later Tryd.pinned [.sentinel, .sentinel] true :=
  OpenClaim.laidByTextAt_later rfl rfl tie noOwnUnsafe
theorem fnExactSignOnceUpto_row_tie : Rows.fnExactSignOnceUptoRow.laidByTextAt .later Tryd.pinned [.sentinel, .sentinel, .sentinel, .sentinel] true :=
  OpenClaim.laidByTextAt_later rfl rfl tie2 noOwnUnsafe
theorem fnExactSignUpto_row_tie : Rows.fnExactSignUptoRow.laidByTextAt .later Tryd.pinned [.sentinel, .sentinel, .sentinel, .sentinel] true :=
  OpenClaim.laidByTextAt_later rfl rfl tie2 noOwnUnsafe
theorem fnExactVerifyUpto_row_tie : Rows.fnExactVerifyUptoRow.laidByTextAt .later Tryd.pinned [.sentinel, .sentinel, .sentinel, .sentinel] true :=
  OpenClaim.laidByTextAt_later rfl rfl tie3 noOwnUnsafe
end Go.Proofs.YthdenegheninaaiDoor
