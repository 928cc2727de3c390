/- The contract of the draw of keys. -/
import Derived.Test.YtllmmelnkkmfoaaDoorCurVer
namespace Go.Proofs.YtllmmelnkkmfoaaDoor
namespace Cur
open Go.ChangeShapes Go.WideShapes Go.ChangeAt Go.RowKit
open Num (pv mv pb mb)
set_option linter.unusedSimpArgs false
set_option linter.unusedVariables false

set_option maxRecDepth 100000 in
set_option maxHeartbeats 4000000 in
theorem drawKeys (w : World) (a : Option Addr) (n cap : Nat) (hn : n ≤ 1048576) (B : Bytes w a n) :
    Calls Tryd.prog 12 #[.slice a n cap] w fun e w' => (∃ (p q g x : Int) (t : ByteArray) (b : Nat) (zs : List Int), e = .returned (.tuple #[pv p q g, .int .i64 x, .string t, .slice (some ⟨b, 0, none⟩) zs.length 6]) ∧ Listed p q g ∧ 1 ≤ x ∧ x ≤ q - 1 ∧ t.size ≤ 100 ∧ zs.length = 6 ∧ Num.Ints w' (some ⟨b, 0, none⟩) zs) ∧ Below w.heap.size w w' := by
  have N0 : Below w.heap.size w (w.alloc (pb 0 0 0)) := (Below.refl _ _).alloc (Nat.le_refl _) _
  have r1 := Num.heap_new w (pb 0 0 0)
  have B0 := B.on N0
  have hs0 : (w.alloc (pb 0 0 0)).heap.size = w.heap.size + 1 := Array.size_push ..
  go_enter Tryd.func12, Tryd.ntmps12
  go_wp2_with fail
  refine (new_any (w.alloc (pb 0 0 0)) a n cap hn B0).mono ?_
  rintro e w1 ⟨rfl, C1⟩
  have mR1 := (C1.below.block w.heap.size (by omega)).trans r1
  generalize w.alloc (pb 0 0 0) = W0 at *
  rw [hs0] at C1 ⊢
  have hcc : ∃ c, w.heap.size + 1 = c := ⟨_, rfl⟩
  obtain ⟨c, hc⟩ := hcc
  rw [hc] at C1 hs0 ⊢
  clear r1 B0 B
  go_wp2_with fail
  refine (params_any C1).mono ?_
  rintro e w2 ⟨⟨p, q, g, rfl, hL⟩, C2, K2⟩
  have hb := listed_bd hL
  have HL : Hid (Listed p q g) := hL
  have mR2 := K2.at (show w.heap.size ≠ c by omega) mR1
  have mP2 := Num.heap_new w2 (pb p q g)
  have mR3 := Num.heap_old mR2 (pb p q g)
  have C3 := C2.alloc (pb p q g)
  have hc2 := C2.lt
  clear mR1 mR2 C1 C2 K2 hL
  generalize hP : w2.heap.size = P at *
  have c1 : (w2.alloc (pb p q g)).cell? ⟨P, 1, none⟩ = some (.int .i64 q) := cs_cell mP2 1
  go_wp2_with fail
  refine (below_any C3 _).mono ?_
  rintro e w3 ⟨⟨x, rfl, hx0, hx1⟩, C4, M4⟩
  have hx2 := hx1 (by omega)
  have mP4 := (M4.block P (by omega)).trans mP2
  have mR4 := (M4.block w.heap.size (by omega)).trans mR3
  have C4d : Is W0 a n cap c w3.drew := C4.drewN 1
  clear hx1 mP2 mR3 C3 M4 c1 hP
  have c0 : w3.cell? ⟨P, 0, none⟩ = some (.int .i64 p) := cs_cell mP4 0
  have c1 : w3.cell? ⟨P, 1, none⟩ = some (.int .i64 q) := cs_cell mP4 1
  have c2 : w3.cell? ⟨P, 2, none⟩ = some (.int .i64 g) := cs_cell mP4 2
  have hpc : ¬ P = c := by omega
  have hrc : ¬ w.heap.size = c := by omega
  have hrp : ¬ w.heap.size = P := by omega
  have hpr : ¬ P = w.heap.size := by omega
  have hw1 : IntKind.i64.wrap (q - 1) = q - 1 := wrap_is _ (by omega)
  go_wp2
  go_region_held3 (fun w' => w'.cell? ⟨P, 0, none⟩ = some (.int .i64 p) ∧ w'.cell? ⟨P, 1, none⟩ = some (.int .i64 q) ∧ w'.cell? ⟨P, 2, none⟩ = some (.int .i64 g)) (go_keep) (first
    | (go_at_call 22; (with_reducible refine (below_any C4d _).mono ?_); rintro e w5 ⟨⟨y, rfl, hy0, hy1⟩, C5, M5⟩; have hy2 := hy1 (by omega); obtain ⟨k, rfl⟩ := Int.eq_ofNat_of_zero_le hy0; have mP5 := (M5.block P hpc).trans mP4; have mR5 := (M5.block w.heap.size hrc).trans mR4; have e0 : w5.cell? ⟨P, 0, none⟩ = some (.int .i64 p) := cs_cell mP5 0; have e1 : w5.cell? ⟨P, 1, none⟩ = some (.int .i64 q) := cs_cell mP5 1; have e2 : w5.cell? ⟨P, 2, none⟩ = some (.int .i64 g) := cs_cell mP5 2; clear hy1 C4d)
    | (go_at_call 29; (with_reducible refine (bytes_kb C5 k (by omega)).mono ?_); rintro e w6 ⟨⟨t, rfl, ht⟩, C6, K6⟩; have ht30 : t.size ≤ 30 := (by omega); have mP6 := K6.at hpc mP5; have mR6 := K6.at hrc mR5; have e3 : w6.cell? ⟨P, 0, none⟩ = some (.int .i64 p) := cs_cell mP6 0; have e4 : w6.cell? ⟨P, 1, none⟩ = some (.int .i64 q) := cs_cell mP6 1; have e5 : w6.cell? ⟨P, 2, none⟩ = some (.int .i64 g) := cs_cell mP6 2; clear C5 K6)
    | (go_at_call 22; (with_reducible refine (below_any C6 _).mono ?_); rintro e w7 ⟨⟨z1, rfl, hz0, hz1⟩, C7, M7⟩; have hz2 := hz1 (by omega); have hw2 : IntKind.i64.wrap (1 + z1) = 1 + z1 := wrap_is _ (by omega); have mP7 := (M7.block P hpc).trans mP6; have mR7 := (M7.block w.heap.size hrc).trans mR6; have e6 : w7.cell? ⟨P, 0, none⟩ = some (.int .i64 p) := cs_cell mP7 0; have e7 : w7.cell? ⟨P, 1, none⟩ = some (.int .i64 q) := cs_cell mP7 1; have e8 : w7.cell? ⟨P, 2, none⟩ = some (.int .i64 g) := cs_cell mP7 2; clear hz1 C6)
    | (go_at_call 22; (with_reducible refine (below_any C7 _).mono ?_); rintro e w8 ⟨⟨z2, rfl, hv0, hv1⟩, C8, M8⟩; have hv2 := hv1 (by omega); have hw3 : IntKind.i64.wrap (1 + z2) = 1 + z2 := wrap_is _ (by omega); have mP8 := (M8.block P hpc).trans mP7; have mR8 := (M8.block w.heap.size hrc).trans mR7; have e9 : w8.cell? ⟨P, 0, none⟩ = some (.int .i64 p) := cs_cell mP8 0; have e10 : w8.cell? ⟨P, 1, none⟩ = some (.int .i64 q) := cs_cell mP8 1; have e11 : w8.cell? ⟨P, 2, none⟩ = some (.int .i64 g) := cs_cell mP8 2; have hRl8 : w.heap.size < w8.heap.size := (Array.getElem?_eq_some_iff.1 mR8).1; have hPl8 : P < w8.heap.size := (Array.getElem?_eq_some_iff.1 mP8).1; have b0 : w8.cell? ⟨w.heap.size, 0, none⟩ = some (.int .i64 0) := cs_cell mR8 0; have b1 : w8.cell? ⟨w.heap.size, 1, none⟩ = some (.int .i64 0) := cs_cell mR8 1; have b2 : w8.cell? ⟨w.heap.size, 2, none⟩ = some (.int .i64 0) := cs_cell mR8 2; have f0 := cs_frozen mR8 0; have f1 := cs_frozen mR8 1; have f2 := cs_frozen mR8 2; clear hv1 C7))
  all_goals
    have IZ : Num.Ints ((((w8.setCell ⟨w.heap.size, 0, none⟩ (.int .i64 p)).setCell ⟨w.heap.size, 1, none⟩ (.int .i64 q)).setCell ⟨w.heap.size, 2, none⟩ (.int .i64 g)).alloc (.cells #[.int .i64 (1 + z1), .int .i64 (1 + z2), .int .i64 2, .int .i64 3, .int .i64 5, .int .i64 7] 3)) (some ⟨w8.heap.size, 0, none⟩) [1 + z1, 1 + z2, 2, 3, 5, 7] := by
      have h := ints_new (((w8.setCell ⟨w.heap.size, 0, none⟩ (.int .i64 p)).setCell ⟨w.heap.size, 1, none⟩ (.int .i64 q)).setCell ⟨w.heap.size, 2, none⟩ (.int .i64 g)) [1 + z1, 1 + z2, 2, 3, 5, 7] 3
      rw [World.size_setCell, World.size_setCell, World.size_setCell] at h
      exact h
    have LL : Below w.heap.size w w8 := N0.trans (C8.below.mono N0.size)
    have L9 : Below w.heap.size w ((((w8.setCell ⟨w.heap.size, 0, none⟩ (.int .i64 p)).setCell ⟨w.heap.size, 1, none⟩ (.int .i64 q)).setCell ⟨w.heap.size, 2, none⟩ (.int .i64 g)).alloc (.cells #[.int .i64 (1 + z1), .int .i64 (1 + z2), .int .i64 2, .int .i64 3, .int .i64 5, .int .i64 7] 3)) := (((LL.setCell (Nat.le_refl _) _).setCell (Nat.le_refl _) _).setCell (Nat.le_refl _) _).alloc (by rw [World.size_setCell, World.size_setCell, World.size_setCell]; exact LL.size) _
    go_wp2
    refine bodyPost_ret (v := .tuple #[pv p q g, .int .i64 (1 + x), .string t, .slice (some ⟨w8.heap.size, 0, none⟩) 6 6]) (by simp [results, Tryd.results12, go_sem, b0, b1, b2, hRl8]) rfl ?_
    exact ⟨⟨p, q, g, 1 + x, t, w8.heap.size, [1 + z1, 1 + z2, 2, 3, 5, 7], rfl, HL.out, by omega, by omega, by omega, rfl, IZ⟩, L9⟩

end Cur
end Go.Proofs.YtllmmelnkkmfoaaDoor
