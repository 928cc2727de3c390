/- Draws for the laws of the tariff: what Fare is asked, what Fee is asked. -/
import Derived.Test.YtmhongcbgokiladCurTf
namespace Go.Proofs.Ytmhongcbgokilad
namespace Tf
open Go.ChangeShapes Go.WideShapes Go.ChangeAt Go.RowKit
open Pk (new_below join_below cell_at heap_new frozen_at lt_of kept heap_old info_of own_form own_below Room)
open Cur (Is Moved Bytes Kb new_any once_any below_any pickInt_any rowOf_new)
set_option linter.unusedSimpArgs false
set_option linter.unusedVariables false

theorem own_kb {c base e size : Nat} {w w1 : World} {v : Value} {n : Nat} {xs : List Value} (h : w.ownsRow base e size v n xs) (K : Kb c w w1) (hc : v.ownBlock ≠ some c) : w1.ownsRow base e size v n xs := by
  obtain ⟨h1, h2⟩ := h
  refine ⟨h1, ?_⟩
  rcases h2 with h2 | ⟨g, cap, cur, hv, hg, hh, hr⟩
  · exact Or.inl h2
  · exact Or.inr ⟨g, cap, cur, hv, hg, by rw [K.block g (lt_of hh) (by intro e; apply hc; rw [hv, e]; rfl)]; exact hh, hr⟩

set_option maxHeartbeats 2000000 in
theorem drawFare (a : Option Addr) (n cap : Nat) (w : World) (hn : n ≤ 1048576) (B : Bytes w a n) :
    Calls Try.prog 35 #[.slice a n cap] w fun e w' => (∃ (l : List Ed) (va : Option Addr) (vc : Nat) (x y p q : Int), e = .returned (.tuple #[.slice va l.length vc, .int .i64 x, .int .i64 y, .int .i64 p, .int .i64 q]) ∧ l.length ≤ 1000 ∧ Edges w' va l) ∧ Below w.heap.size w w' := by
  go_enter Try.func35, Try.ntmps35
  go_wp2_with fail
  refine (new_any _ a n cap hn B).mono ?_
  rintro e w1 ⟨rfl, C1⟩
  go_wp2_with fail
  refine (tariff_any C1).mono ?_
  rintro e w2 ⟨⟨l, va, vc, rfl, hl, O2⟩, C2, -⟩
  have hne : (Value.slice va l.length vc).ownBlock ≠ some w.heap.size := fun h => by have := (O2.lt _ h).1; have := C1.lt; omega
  clear C1
  go_wp2_with fail
  refine (end_any C2).mono ?_
  rintro e w3 ⟨⟨x, rfl⟩, C3, K3⟩
  have O3 := own_kb O2 K3 hne
  clear C2 K3 O2
  go_wp2_with fail
  refine (end_any C3).mono ?_
  rintro e w4 ⟨⟨y, rfl⟩, C4, K4⟩
  have O4 := own_kb O3 K4 hne
  clear C3 K4 O3
  go_wp2_with fail
  refine (once_any C4 _).mono ?_
  rintro e w5 ⟨⟨t1, rfl⟩, C5, M5⟩
  have O5 := own_kb O4 (Kb.moved M5) hne
  clear C4 M5 O4
  cases t1
  · go_wp2_with fail
    refine (below_any C5 _).mono ?_
    rintro e w6 ⟨⟨q, rfl, hq0, hq1⟩, C6, M6⟩
    have hq2 := hq1 (by omega)
    have O6 := own_kb O5 (Kb.moved M6) hne
    clear C5 M6 O5 hq1
    go_wp2_with fail
    refine (once_any C6 _).mono ?_
    rintro e w7 ⟨⟨t2, rfl⟩, C7, M7⟩
    have O7 := own_kb O6 (Kb.moved M7) hne
    clear C6 M7 O6
    cases t2
    · go_wp2_with fail
      refine (below_any C7 _).mono ?_
      rintro e w8 ⟨⟨u, rfl, hu0, hu1⟩, C8, M8⟩
      have O8 := own_kb O7 (Kb.moved M8) hne
      have HE := edges_own O8
      have HL := C8.below
      clear C7 M8 O7 O8 hu1
      go_wp2
      refine bodyPost_ret (v := .tuple #[.slice va l.length vc, .int .i64 x, .int .i64 y, .int .i64 (1 + q), .int .i64 u]) (by simp [results, Try.results35, go_sem]) rfl ?_
      exact ⟨⟨l, va, vc, _, _, _, _, rfl, hl, HE⟩, HL⟩
    · go_wp2_with fail
      refine (below_any C7 _).mono ?_
      rintro e w8 ⟨⟨u, rfl, hu0, hu1⟩, C8, M8⟩
      have O8 := own_kb O7 (Kb.moved M8) hne
      have HE := edges_own O8
      have HL := C8.below
      clear C7 M8 O7 O8 hu1
      go_wp2
      refine bodyPost_ret (v := .tuple #[.slice va l.length vc, .int .i64 x, .int .i64 y, .int .i64 0, .int .i64 u]) (by simp [results, Try.results35, go_sem]) rfl ?_
      exact ⟨⟨l, va, vc, _, _, _, _, rfl, hl, HE⟩, HL⟩
  · go_wp2_with fail
    refine (below_any C5 _).mono ?_
    rintro e w6 ⟨⟨q, rfl, hq0, hq1⟩, C6, M6⟩
    have hq2 := hq1 (by omega)
    have O6 := own_kb O5 (Kb.moved M6) hne
    clear C5 M6 O5 hq1
    go_wp2_with fail
    refine (once_any C6 _).mono ?_
    rintro e w7 ⟨⟨t2, rfl⟩, C7, M7⟩
    have O7 := own_kb O6 (Kb.moved M7) hne
    clear C6 M7 O6
    cases t2
    · go_wp2_with fail
      refine (below_any C7 _).mono ?_
      rintro e w8 ⟨⟨u, rfl, hu0, hu1⟩, C8, M8⟩
      have O8 := own_kb O7 (Kb.moved M8) hne
      have HE := edges_own O8
      have HL := C8.below
      clear C7 M8 O7 O8 hu1
      go_wp2
      refine bodyPost_ret (v := .tuple #[.slice va l.length vc, .int .i64 101, .int .i64 115, .int .i64 (1 + q), .int .i64 u]) (by simp [results, Try.results35, go_sem]) rfl ?_
      exact ⟨⟨l, va, vc, _, _, _, _, rfl, hl, HE⟩, HL⟩
    · go_wp2_with fail
      refine (below_any C7 _).mono ?_
      rintro e w8 ⟨⟨u, rfl, hu0, hu1⟩, C8, M8⟩
      have O8 := own_kb O7 (Kb.moved M8) hne
      have HE := edges_own O8
      have HL := C8.below
      clear C7 M8 O7 O8 hu1
      go_wp2
      refine bodyPost_ret (v := .tuple #[.slice va l.length vc, .int .i64 101, .int .i64 115, .int .i64 0, .int .i64 u]) (by simp [results, Try.results35, go_sem]) rfl ?_
      exact ⟨⟨l, va, vc, _, _, _, _, rfl, hl, HE⟩, HL⟩

set_option maxHeartbeats 2000000 in
theorem drawFee (a : Option Addr) (n cap : Nat) (w : World) (hn : n ≤ 1048576) (B : Bytes w a n) :
    Calls Try.prog 39 #[.slice a n cap] w fun e w' => (∃ p d : Int, e = .returned (.tuple #[.int .i64 p, .int .i64 d]) ∧ -9223372036854775808 ≤ d ∧ d ≤ 9223372036854775807) ∧ Below w.heap.size w w' := by
  go_enter Try.func39, Try.ntmps39
  go_wp2_with fail
  refine (new_any _ a n cap hn B).mono ?_
  rintro e w1 ⟨rfl, C1⟩
  go_wp2_with fail
  refine (below_any C1 _).mono ?_
  rintro e w2 ⟨⟨p, rfl, hp0, hp1⟩, C2, -⟩
  clear C1 hp1
  go_wp2_with fail
  refine (once_any C2 _).mono ?_
  rintro e w3 ⟨⟨t1, rfl⟩, C3, -⟩
  clear C2
  cases t1
  · have C4 := C3
    clear C3
    go_wp2_with fail
    refine (once_any C4 _).mono ?_
    rintro e w5 ⟨⟨t2, rfl⟩, C5, -⟩
    clear C4
    cases t2
    · go_wp2_with fail
      refine (below_any C5 _).mono ?_
      rintro e w6 ⟨⟨q, rfl, hq0, hq1⟩, C6, -⟩
      have hq2 := hq1 (by omega)
      have HL := C6.below
      clear C5 C6 hq1
      go_wp2
      refine bodyPost_ret (results_tmp2 rfl _ _ _) rfl ?_
      exact ⟨⟨_, _, rfl, by omega, by omega⟩, HL⟩
    · have CP := C5.alloc (.cells #[.int .i64 9223372036854775807, .int .i64 (-9223372036854775808)] 3)
      have hPc : w5.heap.size ≠ w.heap.size := by have := C5.lt; omega
      have R := rowOf_new (fun d => -9223372036854775808 ≤ d ∧ d ≤ 9223372036854775807) w5 [9223372036854775807, -9223372036854775808] 3 (by intro z hz; simp at hz; omega)
      clear C5
      go_wp2_with fail
      refine (pickInt_any CP (fun d => -9223372036854775808 ≤ d ∧ d ≤ 9223372036854775807) w5.heap.size 2 2 hPc (by omega) (by omega) R).mono ?_
      rintro e w6 ⟨⟨s, rfl, hs⟩, C6, -⟩
      clear CP hPc R
      have HL := C6.below
      clear C6
      go_wp2
      refine bodyPost_ret (results_tmp2 rfl _ _ _) rfl ?_
      exact ⟨⟨_, _, rfl, hs⟩, HL⟩
  · have CP := C3.alloc (.cells #[.int .i64 (-1), .int .i64 0, .int .i64 10000000, .int .i64 10000001] 3)
    have hPc : w3.heap.size ≠ w.heap.size := by have := C3.lt; omega
    have R := rowOf_new (fun _ => True) w3 [-1, 0, 10000000, 10000001] 3 (fun _ _ => trivial)
    clear C3
    go_wp2_with fail
    refine (pickInt_any CP (fun _ => True) w3.heap.size 4 4 hPc (by omega) (by omega) R).mono ?_
    rintro e w4 ⟨⟨r, rfl, hr⟩, C4, -⟩
    clear CP hPc R
    go_wp2_with fail
    refine (once_any C4 _).mono ?_
    rintro e w5 ⟨⟨t2, rfl⟩, C5, -⟩
    clear C4
    cases t2
    · go_wp2_with fail
      refine (below_any C5 _).mono ?_
      rintro e w6 ⟨⟨q, rfl, hq0, hq1⟩, C6, -⟩
      have hq2 := hq1 (by omega)
      have HL := C6.below
      clear C5 C6 hq1
      go_wp2
      refine bodyPost_ret (results_tmp2 rfl _ _ _) rfl ?_
      exact ⟨⟨_, _, rfl, by omega, by omega⟩, HL⟩
    · have CP := C5.alloc (.cells #[.int .i64 9223372036854775807, .int .i64 (-9223372036854775808)] 3)
      have hPc : w5.heap.size ≠ w.heap.size := by have := C5.lt; omega
      have R := rowOf_new (fun d => -9223372036854775808 ≤ d ∧ d ≤ 9223372036854775807) w5 [9223372036854775807, -9223372036854775808] 3 (by intro z hz; simp at hz; omega)
      clear C5
      go_wp2_with fail
      refine (pickInt_any CP (fun d => -9223372036854775808 ≤ d ∧ d ≤ 9223372036854775807) w5.heap.size 2 2 hPc (by omega) (by omega) R).mono ?_
      rintro e w6 ⟨⟨s, rfl, hs⟩, C6, -⟩
      clear CP hPc R
      have HL := C6.below
      clear C6
      go_wp2
      refine bodyPost_ret (results_tmp2 rfl _ _ _) rfl ?_
      exact ⟨⟨_, _, rfl, hs⟩, HL⟩

end Tf
end Go.Proofs.Ytmhongcbgokilad
