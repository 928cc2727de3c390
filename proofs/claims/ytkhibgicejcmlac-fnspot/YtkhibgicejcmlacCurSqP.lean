/- The draws of a text for a square, and of a square to scan. -/
import Derived.Test.YtkhibgicejcmlacCurSqD
namespace Go.Proofs.Ytkhibgicejcmlac
namespace Sq
open Go.ChangeShapes Go.WideShapes Go.ChangeAt Go.RowKit
open Pk (new_below join_below cell_at heap_new frozen_at lt_of kept heap_old)
open Cur (Is Moved Bytes Kb new_any once_any below_any bytes_any)
set_option linter.unusedSimpArgs false
set_option linter.unusedVariables false

set_option maxRecDepth 100000 in
set_option maxHeartbeats 4000000 in
theorem drawPaint (W0 : World) (a : Option Addr) (n cap : Nat) (hn : n ≤ 1048576) (B : Bytes W0 a n) :
    Calls Try.prog 20 #[.slice a n cap] W0 fun e w' => (∃ s : ByteArray, e = .returned (.string s) ∧ s.size ≤ 401) ∧ Below W0.heap.size W0 w' := by
  have HN := new_any W0 a n cap hn B
  go_enter Try.func20, Try.ntmps20
  go_wp2_with fail
  refine HN.mono ?_
  rintro e w1 ⟨rfl, C1⟩
  generalize hcc : W0.heap.size = c at *
  go_wp2_with fail
  refine (below_any C1 60).mono ?_
  rintro e w2 ⟨⟨x, rfl, hx0, hx1⟩, C2, -⟩
  have hx2 := hx1 (by omega)
  obtain ⟨k0, rfl⟩ : ∃ m : Nat, x = m := ⟨x.toNat, by omega⟩
  clear HN C1 hx1
  go_wp2_with fail
  refine (once_any C2 12).mono ?_
  rintro e w3 ⟨⟨bb, rfl⟩, C3, -⟩
  clear C2
  cases bb
  · go_wp2_with fail
    refine (bytes_any C3 k0 (by omega)).mono ?_
    rintro e w4 ⟨⟨s, rfl, hs⟩, C4⟩
    have L := C4.below
    go_wp2
    go_ret
    exact ⟨⟨s, rfl, by omega⟩, L⟩
  · go_wp2_with fail
    refine (below_any C3 2).mono ?_
    rintro e w4 ⟨⟨y, rfl, hy0, hy1⟩, C4, -⟩
    have hy2 := hy1 (by omega)
    obtain ⟨k1, rfl⟩ : ∃ m : Nat, y = m := ⟨y.toNat, by omega⟩
    have HBY : Hid (∀ _ : Unit, _) := fun _ => bytes_any C4 (400 + k1) (by omega)
    rw [show ((400 + k1 : Nat) : Int) = 400 + (k1 : Int) from by omega] at HBY
    clear hy1
    go_wp2_with fail
    refine (HBY.out ()).mono ?_
    rintro e w5 ⟨⟨s, rfl, hs⟩, C5⟩
    have L := C5.below
    go_wp2
    go_ret
    exact ⟨⟨s, rfl, by omega⟩, L⟩

set_option maxRecDepth 100000 in
set_option maxHeartbeats 4000000 in
theorem drawScan (W0 : World) (a : Option Addr) (n cap : Nat) (hn : n ≤ 1048576) (B : Bytes W0 a n) :
    Calls Try.prog 24 #[.slice a n cap] W0 fun e w' => (∃ (q : Int) (s : ByteArray), e = .returned (.agg #[.int .i64 q, .string s]) ∧ s.size ≤ 4000 ∧ (Lit.int .i64 q).wf = true) ∧ Below W0.heap.size W0 w' := by
  have N0 := new_below W0 (.cells #[.int .i64 0, .string ⟨#[]⟩] 29)
  have m0 : Box (W0.alloc (.cells #[.int .i64 0, .string ⟨#[]⟩] 29)) W0.heap.size 0 ⟨#[]⟩ := heap_new _ _
  have HN := new_any (W0.alloc (.cells #[.int .i64 0, .string ⟨#[]⟩] 29)) a n cap hn (B.on N0)
  go_enter Try.func24, Try.ntmps24
  go_wp2_with fail
  refine HN.mono ?_
  generalize W0.alloc (.cells #[.int .i64 0, .string ⟨#[]⟩] 29) = WA at *
  rintro e w1 ⟨rfl, C1⟩
  have hz0 : W0.heap.size < WA.heap.size := lt_of m0
  generalize hcc : WA.heap.size = c at *
  go_wp2_with fail
  refine (sq_any C1).mono ?_
  rintro e w2 ⟨⟨q, s, rfl, hs, hq⟩, C2, -⟩
  have hL := C2.below
  rw [hcc] at hL
  have R4 : Box w2 W0.heap.size 0 ⟨#[]⟩ := kept hL (by omega) m0
  have K2 := join_below N0 (by rw [hcc]; exact hL)
  have R5 := R4.put q s
  have r0 := R5.n
  have r1 := R5.s
  have g0 := R4.f 0
  have g1 := R4.f 1
  have c0 := R4.n
  have c1 := R4.s
  have HF := (K2.setCell (p := ⟨W0.heap.size, 0, none⟩) (Nat.le_refl _) (.int .i64 q)).setCell (p := ⟨W0.heap.size, 1, none⟩) (Nat.le_refl _) (.string s)
  go_wp2
  refine bodyPost_ret (v := .agg #[.int .i64 q, .string s]) (by simp [results, Try.results24, go_sem, r0, r1]) rfl ?_
  exact ⟨⟨q, s, rfl, hs, hq⟩, HF⟩

end Sq
end Go.Proofs.Ytkhibgicejcmlac
