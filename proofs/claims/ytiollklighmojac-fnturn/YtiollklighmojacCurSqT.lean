/- The draw of a square and a number of quarters. -/
import Derived.Test.YtiollklighmojacCurSqD
namespace Go.Proofs.Ytiollklighmojac
namespace Sq
open Go.ChangeShapes Go.WideShapes Go.ChangeAt Go.RowKit
open Pk (new_below join_below cell_at heap_new frozen_at lt_of kept heap_old)
open Cur (Is Moved Bytes Kb new_any once_any below_any pickInt_any rowOf_new bytes_kb)
set_option linter.unusedSimpArgs false
set_option linter.unusedVariables false

set_option maxRecDepth 100000 in
set_option maxHeartbeats 8000000 in
theorem drawTurnBy (W0 : World) (a : Option Addr) (n cap : Nat) (hn : n ≤ 1048576) (B : Bytes W0 a n) :
    Calls Try.prog 11 #[.slice a n cap] W0 fun e w' => (∃ (q : Int) (s : ByteArray) (m : Int), e = .returned (.tuple #[.agg #[.int .i64 q, .string s], .int .i64 m]) ∧ s.size ≤ 4000 ∧ (Lit.int .i64 q).wf = true ∧ (Lit.int .i64 m).wf = true) ∧ Below W0.heap.size W0 w' := by
  have N0 := new_below W0 (.cells #[.int .i64 0, .string ⟨#[]⟩] 29)
  have m0 : Box (W0.alloc (.cells #[.int .i64 0, .string ⟨#[]⟩] 29)) W0.heap.size 0 ⟨#[]⟩ := heap_new _ _
  have HN := new_any (W0.alloc (.cells #[.int .i64 0, .string ⟨#[]⟩] 29)) a n cap hn (B.on N0)
  go_enter Try.func11, Try.ntmps11
  go_wp2_with fail
  refine HN.mono ?_
  generalize W0.alloc (.cells #[.int .i64 0, .string ⟨#[]⟩] 29) = WA at *
  rintro e w1 ⟨rfl, C1⟩
  have hz0 : W0.heap.size < WA.heap.size := lt_of m0
  generalize hcc : WA.heap.size = c at *
  go_wp2_with fail
  refine (sq_any C1).mono ?_
  rintro e w2 ⟨⟨q, s, rfl, hs, hq⟩, C2, -⟩
  have hX : c < w2.heap.size := C2.lt
  have X3 : Box (w2.alloc (.cells #[.int .i64 q, .string s] 29)) w2.heap.size q s := heap_new _ _
  have C3 := C2.alloc (.cells #[.int .i64 q, .string s] 29)
  have hXc : w2.heap.size ≠ c := by omega
  have hRX : W0.heap.size ≠ w2.heap.size := by omega
  clear HN C1 C2
  go_wp2_with fail
  refine (once_any C3 10).mono ?_
  generalize w2.alloc (.cells #[.int .i64 q, .string s] 29) = w3 at *
  generalize w2.heap.size = X at *
  rintro e w4 ⟨⟨bb, rfl⟩, C4, M4⟩
  have X4 := X3.kb (Kb.moved M4) hXc
  have HL : Hid (∀ wx, Is WA a n cap c wx → Box wx W0.heap.size 0 ⟨#[]⟩) := fun wx hC => by
    have hb := hC.below
    exact kept hb (by have := hC.below.size; omega) m0
  have HB : Hid (∀ wx, Is WA a n cap c wx → Below W0.heap.size W0 wx) := fun wx hC => join_below N0 (by have hb := hC.below; exact hb)
  have R4 := HL.out _ C4
  have x0 := X4.n
  have x1 := X4.s
  have y0 := X4.f 0
  have y1 := X4.f 1
  have r0 := R4.n
  have r1 := R4.s
  have g0 := R4.f 0
  have g1 := R4.f 1
  clear C3 X3 M4 N0 m0 R4
  cases bb
  · have HBL : Hid (∀ wx, Is WA a n cap c wx → _) := fun wx hC => below_any hC 12
    go_wp2_with fail
    go_region_with (go_at_call 29; (with_reducible refine (HBL.out _ ?_).mono ?_); (first | exact C4 | exact C4.drewN 1); rintro e x5 ⟨⟨k, rfl, hk0, hk1⟩, C5, M5⟩; have hk2 := hk1 (by omega); obtain ⟨d, hd⟩ : ∃ d : Int, k - 5 = d := ⟨_, rfl⟩; have qd : IntKind.i64.wrap d = d := (by rw [IntKind.wrap_i64]; omega); have KD : Kb c w4 x5 := (by first | exact Kb.moved M5 | exact ((Kb.refl c w4).drew).trans (Kb.moved M5)); have X5 := X4.kb KD hXc; have R5 := HL.out _ C5; have x0 := X5.n; have x1 := X5.s; have y0 := X5.f 0; have y1 := X5.f 1; have r0 := R5.n; have r1 := R5.s; have g0 := R5.f 0; have g1 := R5.f 1)
    all_goals
      have HF := ((HB.out _ C5).setCell (p := ⟨W0.heap.size, 0, none⟩) (Nat.le_refl _) (.int .i64 q)).setCell (p := ⟨W0.heap.size, 1, none⟩) (Nat.le_refl _) (.string s)
      go_wp2
      refine bodyPost_ret (v := .tuple #[.agg #[.int .i64 q, .string s], .int .i64 d]) (by simp [results, Try.results11, go_sem, r0, r1]) rfl ?_
      exact ⟨⟨q, s, d, rfl, hs, hq, WalkArith.wf_i64 (by omega)⟩, HF⟩
  · have CP : Is WA a n cap c (w4.alloc (.cells #[.int .i64 9223372036854775807, .int .i64 (-9223372036854775808), .int .i64 (-1)] 3)).drew := (C4.alloc (.cells #[.int .i64 9223372036854775807, .int .i64 (-9223372036854775808), .int .i64 (-1)] 3)).drewN 1
    have RW : Cur.RowOf (fun z => (Lit.int .i64 z).wf = true) (w4.alloc (.cells #[.int .i64 9223372036854775807, .int .i64 (-9223372036854775808), .int .i64 (-1)] 3)).drew w4.heap.size 3 := rowOf_new (fun z => (Lit.int .i64 z).wf = true) w4 [9223372036854775807, -9223372036854775808, -1] 3 (by
      intro z hz
      simp at hz
      rcases hz with rfl | rfl | rfl <;> rfl)
    have hwc : w4.heap.size ≠ c := by have := C4.lt; omega
    have HPK : Hid (∀ _ : Unit, _) := fun _ => pickInt_any CP (fun z => (Lit.int .i64 z).wf = true) w4.heap.size 3 3 hwc (by omega) (by omega) RW
    clear RW CP
    have XA : Box (w4.alloc (.cells #[.int .i64 9223372036854775807, .int .i64 (-9223372036854775808), .int .i64 (-1)] 3)) X q s := X4.kb ((Kb.refl c w4).alloc _) hXc
    have xa0 := XA.n
    have xa1 := XA.s
    have ya0 := XA.f 0
    have ya1 := XA.f 1
    go_wp2_with fail
    go_region_with (go_at_call 28; (with_reducible refine (HPK.out ()).mono ?_); rintro e x5 ⟨⟨d, rfl, hd⟩, C5, M5⟩; have HDW : Hid ((Lit.int .i64 d).wf = true) := hd; clear hd; have KD : Kb c w4 x5 := ((((Kb.refl c w4).alloc _).drew).trans (Kb.moved M5)); have X5 := X4.kb KD hXc; have R5 := HL.out _ C5; have x0 := X5.n; have x1 := X5.s; have y0 := X5.f 0; have y1 := X5.f 1; have r0 := R5.n; have r1 := R5.s; have g0 := R5.f 0; have g1 := R5.f 1)
    all_goals
      have HF := ((HB.out _ C5).setCell (p := ⟨W0.heap.size, 0, none⟩) (Nat.le_refl _) (.int .i64 q)).setCell (p := ⟨W0.heap.size, 1, none⟩) (Nat.le_refl _) (.string s)
      go_wp2
      refine bodyPost_ret (v := .tuple #[.agg #[.int .i64 q, .string s], .int .i64 d]) (by simp [results, Try.results11, go_sem, r0, r1]) rfl ?_
      exact ⟨⟨q, s, d, rfl, hs, hq, HDW.out⟩, HF⟩

end Sq
end Go.Proofs.Ytiollklighmojac
