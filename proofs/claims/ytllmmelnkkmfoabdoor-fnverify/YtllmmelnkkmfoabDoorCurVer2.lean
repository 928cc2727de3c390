/- Contracts of the draws of chapter 2: the walks of spoilt parameters, and of what is verified. -/
import Derived.Test.YtllmmelnkkmfoabDoorCurSpoilt
import Derived.Test.YtllmmelnkkmfoabDoorSignSpec4
import Derived.Deep.Cut
namespace Go.Proofs.YtllmmelnkkmfoabDoor
namespace Cur
open Go.ChangeShapes Go.WideShapes Go.ChangeAt Go.RowKit
open Num (pv mv pb mb sv signV keyI keyB okP)
set_option linter.unusedSimpArgs false
set_option linter.unusedVariables false

theorem sign_any {p q g : Int} (hL : Listed p q g) (x z : Int) (t : ByteArray) (ht : t.size ≤ 100) (w : World) (b : Nat) (I : Num.Ints w (some ⟨b, 0, none⟩) [z, 2, 3, 5]) :
    Calls Tryd.prog 46 #[pv p q g, .int .i64 x, .string t, .slice (some ⟨b, 0, none⟩) 4 4] w fun e w' => (∃ r s i d, e = .returned (.tuple #[mv r s, .int .i64 i, .bool d]) ∧ 0 ≤ r ∧ r < q ∧ 0 ≤ s ∧ s < q) ∧ Below w.heap.size w w' := by
  refine (Num.specSign_val p q g x t (some ⟨b, 0, none⟩) [z, 2, 3, 5] 4 w (by unfold maxLen; omega) (by simp) I).mono ?_
  rintro e w' ⟨rfl, L⟩
  obtain ⟨h1, h2⟩ := sign_bd (x := x) (t := t) (zs := [z, 2, 3, 5]) hL
  exact ⟨⟨_, _, _, _, rfl, h1.1, h1.2, h2.1, h2.2⟩, L⟩

set_option maxRecDepth 100000 in
set_option maxHeartbeats 4000000 in
theorem drawVerify (w : World) (a : Option Addr) (n cap : Nat) (hn : n ≤ 1048576) (B : Bytes w a n) :
    Calls Tryd.prog 9 #[.slice a n cap] w fun e w' => (∃ (p q g o r s : Int) (t : ByteArray), e = .returned (.tuple #[pv p q g, .int .i64 o, .string t, mv r s]) ∧ t.size ≤ 100 ∧ 0 ≤ r ∧ r ≤ 4000000) ∧ Below w.heap.size w w' := by
  obtain ⟨L0, r1, r2⟩ := Num.two_new w (pb 0 0 0) (mb 0 0)
  have B0 := B.on L0
  have hs0 : ((w.alloc (pb 0 0 0)).alloc (mb 0 0)).heap.size = w.heap.size + 1 + 1 := by
    have e1 : (w.alloc (pb 0 0 0)).heap.size = w.heap.size + 1 := Array.size_push ..
    rw [← e1]
    exact Array.size_push ..
  go_enter Tryd.func9, Tryd.ntmps9
  go_wp2_with fail
  refine (new_any ((w.alloc (pb 0 0 0)).alloc (mb 0 0)) a n cap hn B0).mono ?_
  rintro e w1 ⟨rfl, C1⟩
  have mR1 := (C1.below.block w.heap.size (by omega)).trans r1
  have mQ1 := (C1.below.block (w.heap.size + 1) (by omega)).trans r2
  generalize (w.alloc (pb 0 0 0)).alloc (mb 0 0) = W0 at *
  rw [hs0] at C1 ⊢
  have hcc : ∃ c, w.heap.size + 1 + 1 = c := ⟨_, rfl⟩
  obtain ⟨c, hc⟩ := hcc
  rw [hc] at C1 hs0 ⊢
  clear r1 r2 B0 B
  go_wp2_with fail
  refine (params_any C1).mono ?_
  rintro e w2 ⟨⟨p, q, g, rfl, hL⟩, C2, K2⟩
  have hb := listed_bd hL
  have HL : Hid (Listed p q g) := hL
  have mR2 := K2.at (show w.heap.size ≠ c by omega) mR1
  have mQ2 := K2.at (show w.heap.size + 1 ≠ c by omega) mQ1
  have mP2 := Num.heap_new w2 (pb p q g)
  have mR3 := Num.heap_old mR2 (pb p q g)
  have mQ3 := Num.heap_old mQ2 (pb p q g)
  have C3 := C2.alloc (pb p q g)
  have hc2 := C2.lt
  have hq2 : w.heap.size + 1 < w2.heap.size := (Array.getElem?_eq_some_iff.1 mQ2).1
  clear mR1 mQ1 mR2 mQ2 C1 C2 K2 hL
  generalize hP : w2.heap.size = P at *
  have c1 : (w2.alloc (pb p q g)).cell? ⟨P, 1, none⟩ = some (.int .i64 q) := cs_cell mP2 1
  go_wp2_with fail
  refine (below_any C3 _).mono ?_
  rintro e w3 ⟨⟨x, rfl, hx0, hx1⟩, C4, M4⟩
  have hx2 := hx1 (by omega)
  have mP4 := (M4.block P (by omega)).trans mP2
  have mR4 := (M4.block w.heap.size (by omega)).trans mR3
  have mQ4 := (M4.block (w.heap.size + 1) (by omega)).trans mQ3
  clear hx1 mP2 mR3 mQ3 C3 M4 c1 hP
  have c0 : w3.cell? ⟨P, 0, none⟩ = some (.int .i64 p) := cs_cell mP4 0
  have c1 : w3.cell? ⟨P, 1, none⟩ = some (.int .i64 q) := cs_cell mP4 1
  have c2 : w3.cell? ⟨P, 2, none⟩ = some (.int .i64 g) := cs_cell mP4 2
  have hkb := key_bd (x := 1 + x) HL.out (by omega) (by omega)
  have HKV : Hid (_) := Num.specOpenKey_val p q g (1 + x) w3
  generalize keyI p q g (1 + x) = o at *
  generalize keyB p q g (1 + x) = ob at *
  go_wp2_with fail
  refine (Calls.mono HKV.out ?_)
  rintro e w4 ⟨rfl, L4⟩
  have C5 := C4.kept L4
  have mP5 := Num.kept_new L4 mP4
  have mR5 := Num.kept_new L4 mR4
  have mQ5 := Num.kept_new L4 mQ4
  clear c0 c1 c2 L4 C4 mP4 mR4 mQ4 HKV
  go_wp2_with fail
  refine (below_any C5 _).mono ?_
  rintro e w5 ⟨⟨y, rfl, hy0, hy1⟩, C6, M6⟩
  have hy2 := hy1 (by omega)
  obtain ⟨k, rfl⟩ := Int.eq_ofNat_of_zero_le hy0
  have mP6 := (M6.block P (by omega)).trans mP5
  have mR6 := (M6.block w.heap.size (by omega)).trans mR5
  have mQ6 := (M6.block (w.heap.size + 1) (by omega)).trans mQ5
  clear hy1 mP5 mR5 mQ5 C5 M6
  go_wp2_with fail
  refine (bytes_kb C6 k (by omega)).mono ?_
  rintro e w6 ⟨⟨t, rfl, ht⟩, C7, K7⟩
  have ht100 : t.size ≤ 30 := by omega
  have mP7 := K7.at (show P ≠ c by omega) mP6
  have mR7 := K7.at (show w.heap.size ≠ c by omega) mR6
  have mQ7 := K7.at (show w.heap.size + 1 ≠ c by omega) mQ6
  have C7d : Is W0 a n cap c w6.drew := C7.drewN 1
  have C7e : Is W0 a n cap c (w6.alloc (mb 0 0)).drew := (C7.alloc (mb 0 0)).drewN 1
  have nM7 := Num.heap_new w6 (mb 0 0)
  have nP7 := Num.heap_old mP7 (mb 0 0)
  have nR7 := Num.heap_old mR7 (mb 0 0)
  have nQ7 := Num.heap_old mQ7 (mb 0 0)
  have hc7 := C7.lt
  have c0 : w6.cell? ⟨P, 0, none⟩ = some (.int .i64 p) := cs_cell mP7 0
  have c1 : w6.cell? ⟨P, 1, none⟩ = some (.int .i64 q) := cs_cell mP7 1
  have c2 : w6.cell? ⟨P, 2, none⟩ = some (.int .i64 g) := cs_cell mP7 2
  have hpc : ¬ P = c := by omega
  have hPlt : P < w6.heap.size := (Array.getElem?_eq_some_iff.1 mP7).1
  clear mP6 mR6 mQ6 C6 K7 ht
  have hw1 : IntKind.i64.wrap (q - 1) = q - 1 := wrap_is _ (by omega)
  have HSA : Hid (∀ (z : Int) (w : World) (b : Nat), Num.Ints w (some ⟨b, 0, none⟩) [z, 2, 3, 5] → Calls Tryd.prog 46 #[pv p q g, .int .i64 (1 + x), .string t, .slice (some ⟨b, 0, none⟩) 4 4] w fun e w' => (∃ r s i d, e = .returned (.tuple #[mv r s, .int .i64 i, .bool d]) ∧ 0 ≤ r ∧ r < q ∧ 0 ≤ s ∧ s < q) ∧ Below w.heap.size w w') := fun z w b I => sign_any HL.out (1 + x) z t (by omega) w b I
  go_wp2
  go_cut [12, 13, 14] from 15 (fun s12 s13 s14 wc => ∃ (M : Nat) (r s si : Int) (sd : Bool), s12 = .pointer (some ⟨M, 0, none⟩) ∧ s13 = .int .i64 si ∧ s14 = .bool sd ∧ Is W0 a n cap c wc ∧ wc.heap[M]? = some (mb r s) ∧ wc.heap[P]? = some (pb p q g) ∧ wc.heap[w.heap.size]? = some (pb 0 0 0) ∧ wc.heap[w.heap.size + 1]? = some (mb 0 0) ∧ w.heap.size + 1 < M ∧ P ≠ M ∧ c ≠ M ∧ 0 ≤ r ∧ r < q ∧ 0 ≤ s ∧ s < q)
  case first =>
    go_region_held3 (fun w' => w'.cell? ⟨P, 0, none⟩ = some (.int .i64 p) ∧ w'.cell? ⟨P, 1, none⟩ = some (.int .i64 q) ∧ w'.cell? ⟨P, 2, none⟩ = some (.int .i64 g)) (go_keep) (first
      | (go_at_call 43; (with_reducible refine (below_any C7d _).mono ?_); rintro e w7 ⟨⟨z, rfl, hz0, hz1⟩, C8, M8⟩; have hz2 := hz1 (by omega); have hw2 : IntKind.i64.wrap (1 + z) = 1 + z := wrap_is _ (by omega); have mP8 := (M8.block P hpc).trans mP7; have mR8 := (M8.block w.heap.size (by omega)).trans mR7; have mQ8 := (M8.block (w.heap.size + 1) (by omega)).trans mQ7; have e0 : w7.cell? ⟨P, 0, none⟩ = some (.int .i64 p) := cs_cell mP8 0; have e1 : w7.cell? ⟨P, 1, none⟩ = some (.int .i64 q) := cs_cell mP8 1; have e2 : w7.cell? ⟨P, 2, none⟩ = some (.int .i64 g) := cs_cell mP8 2; have hPl7 : P < w7.heap.size := (Array.getElem?_eq_some_iff.1 mP8).1; have hcl7 := C8.lt; have eI : (w7.alloc (.cells #[.int .i64 (1 + z), .int .i64 2, .int .i64 3, .int .i64 5] 3)).heap.size = w7.heap.size + 1 := Array.size_push ..; have eB : (w7.alloc (mb 0 0)).heap.size = w7.heap.size + 1 := Array.size_push ..; have IZ : Num.Ints (w7.alloc (.cells #[.int .i64 (1 + z), .int .i64 2, .int .i64 3, .int .i64 5] 3)) (some ⟨w7.heap.size, 0, none⟩) [1 + z, 2, 3, 5] := ints_new w7 [1 + z, 2, 3, 5] 3; have IZ2 : Num.Ints ((w7.alloc (.cells #[.int .i64 (1 + z), .int .i64 2, .int .i64 3, .int .i64 5] 3)).alloc (mb 0 0)) (some ⟨w7.heap.size, 0, none⟩) [1 + z, 2, 3, 5] := IZ.on ((Below.refl _ _).alloc (Nat.le_refl _) _); have IZ3 : Num.Ints ((w7.alloc (mb 0 0)).alloc (.cells #[.int .i64 (1 + z), .int .i64 2, .int .i64 3, .int .i64 5] 3)) (some ⟨w7.heap.size + 1, 0, none⟩) [1 + z, 2, 3, 5] := (by have h := ints_new (w7.alloc (mb 0 0)) [1 + z, 2, 3, 5] 3; rw [eB] at h; exact h);  clear hz1)
      | (go_at_call 43; (with_reducible refine (below_any C7e _).mono ?_); rintro e w7 ⟨⟨z, rfl, hz0, hz1⟩, C8, M8⟩; have hz2 := hz1 (by omega); have hw2 : IntKind.i64.wrap (1 + z) = 1 + z := wrap_is _ (by omega); have mP8 := (M8.block P hpc).trans nP7; have mR8 := (M8.block w.heap.size (by omega)).trans nR7; have mQ8 := (M8.block (w.heap.size + 1) (by omega)).trans nQ7; have e0 : w7.cell? ⟨P, 0, none⟩ = some (.int .i64 p) := cs_cell mP8 0; have e1 : w7.cell? ⟨P, 1, none⟩ = some (.int .i64 q) := cs_cell mP8 1; have e2 : w7.cell? ⟨P, 2, none⟩ = some (.int .i64 g) := cs_cell mP8 2; have hPl7 : P < w7.heap.size := (Array.getElem?_eq_some_iff.1 mP8).1; have hcl7 := C8.lt; have eI : (w7.alloc (.cells #[.int .i64 (1 + z), .int .i64 2, .int .i64 3, .int .i64 5] 3)).heap.size = w7.heap.size + 1 := Array.size_push ..; have eB : (w7.alloc (mb 0 0)).heap.size = w7.heap.size + 1 := Array.size_push ..; have IZ : Num.Ints (w7.alloc (.cells #[.int .i64 (1 + z), .int .i64 2, .int .i64 3, .int .i64 5] 3)) (some ⟨w7.heap.size, 0, none⟩) [1 + z, 2, 3, 5] := ints_new w7 [1 + z, 2, 3, 5] 3; have IZ2 : Num.Ints ((w7.alloc (.cells #[.int .i64 (1 + z), .int .i64 2, .int .i64 3, .int .i64 5] 3)).alloc (mb 0 0)) (some ⟨w7.heap.size, 0, none⟩) [1 + z, 2, 3, 5] := IZ.on ((Below.refl _ _).alloc (Nat.le_refl _) _); have IZ3 : Num.Ints ((w7.alloc (mb 0 0)).alloc (.cells #[.int .i64 (1 + z), .int .i64 2, .int .i64 3, .int .i64 5] 3)) (some ⟨w7.heap.size + 1, 0, none⟩) [1 + z, 2, 3, 5] := (by have h := ints_new (w7.alloc (mb 0 0)) [1 + z, 2, 3, 5] 3; rw [eB] at h; exact h); have mM8 := (M8.block w6.heap.size (by omega)).trans nM7;  clear hz1)
      | (go_at_call 46; (with_reducible refine (HSA.out (1 + z) _ _ IZ).mono ?_); rintro e w8 ⟨⟨r, s, si, sd, rfl, hr0, hr1, hs0', hs1⟩, L8⟩; have N7 := (Below.refl w7.heap.size w7).alloc (Nat.le_refl _) (.cells #[.int .i64 (1 + z), .int .i64 2, .int .i64 3, .int .i64 5] 3); have L9 : Below w7.heap.size w7 w8 := N7.trans (L8.mono N7.size); have mP9 := Num.kept_new L9 mP8; have e3 : w8.cell? ⟨P, 0, none⟩ = some (.int .i64 p) := cs_cell mP9 0; have e4 : w8.cell? ⟨P, 1, none⟩ = some (.int .i64 q) := cs_cell mP9 1; have e5 : w8.cell? ⟨P, 2, none⟩ = some (.int .i64 g) := cs_cell mP9 2; have hPl8 : P < w8.heap.size := (Array.getElem?_eq_some_iff.1 mP9).1; (first | (have mM9a := Num.kept_new L9 mM8; have z0 : w8.cell? ⟨w6.heap.size, 0, none⟩ = some (.int .i64 0) := cs_cell mM9a 0; have z1 : w8.cell? ⟨w6.heap.size, 1, none⟩ = some (.int .i64 0) := cs_cell mM9a 1; have y0 : w8.frozen? ⟨w6.heap.size, 0, none⟩ = false := cs_frozen mM9a 0; have y1 : w8.frozen? ⟨w6.heap.size, 1, none⟩ = false := cs_frozen mM9a 1; have nz : ¬ w6.heap.size = P := (by omega); have nz' : ¬ P = w6.heap.size := (by omega)) | skip))
      | (go_at_call 46; (with_reducible refine (HSA.out (1 + z) _ _ IZ2).mono ?_); rintro e w8 ⟨⟨r, s, si, sd, rfl, hr0, hr1, hs0', hs1⟩, L8⟩; have N7 := ((Below.refl w7.heap.size w7).alloc (Nat.le_refl _) (.cells #[.int .i64 (1 + z), .int .i64 2, .int .i64 3, .int .i64 5] 3)).alloc (by rw [eI]; omega) (mb 0 0); have L9 : Below w7.heap.size w7 w8 := N7.trans (L8.mono N7.size); have mP9 := Num.kept_new L9 mP8; have e3 : w8.cell? ⟨P, 0, none⟩ = some (.int .i64 p) := cs_cell mP9 0; have e4 : w8.cell? ⟨P, 1, none⟩ = some (.int .i64 q) := cs_cell mP9 1; have e5 : w8.cell? ⟨P, 2, none⟩ = some (.int .i64 g) := cs_cell mP9 2; have hPl8 : P < w8.heap.size := (Array.getElem?_eq_some_iff.1 mP9).1; have mM9b := Num.kept_new L8 (show ((w7.alloc (.cells #[.int .i64 (1 + z), .int .i64 2, .int .i64 3, .int .i64 5] 3)).alloc (mb 0 0)).heap[w7.heap.size + 1]? = some (mb 0 0) by rw [← eI]; exact Num.heap_new _ _); have z0 : w8.cell? ⟨w7.heap.size + 1, 0, none⟩ = some (.int .i64 0) := cs_cell mM9b 0; have z1 : w8.cell? ⟨w7.heap.size + 1, 1, none⟩ = some (.int .i64 0) := cs_cell mM9b 1; have y0 : w8.frozen? ⟨w7.heap.size + 1, 0, none⟩ = false := cs_frozen mM9b 0; have y1 : w8.frozen? ⟨w7.heap.size + 1, 1, none⟩ = false := cs_frozen mM9b 1; have nz : ¬ w7.heap.size + 1 = P := (by omega); have nz' : ¬ P = w7.heap.size + 1 := (by omega))
      | (go_at_call 46; (with_reducible refine (HSA.out (1 + z) _ _ IZ3).mono ?_); rintro e w8 ⟨⟨r, s, si, sd, rfl, hr0, hr1, hs0', hs1⟩, L8⟩; have N7 := ((Below.refl w7.heap.size w7).alloc (Nat.le_refl _) (mb 0 0)).alloc (by rw [eB]; omega) (.cells #[.int .i64 (1 + z), .int .i64 2, .int .i64 3, .int .i64 5] 3); have L9 : Below w7.heap.size w7 w8 := N7.trans (L8.mono N7.size); have mP9 := Num.kept_new L9 mP8; have e3 : w8.cell? ⟨P, 0, none⟩ = some (.int .i64 p) := cs_cell mP9 0; have e4 : w8.cell? ⟨P, 1, none⟩ = some (.int .i64 q) := cs_cell mP9 1; have e5 : w8.cell? ⟨P, 2, none⟩ = some (.int .i64 g) := cs_cell mP9 2; have hPl8 : P < w8.heap.size := (Array.getElem?_eq_some_iff.1 mP9).1; have mM9c := Num.kept_new L8 (Num.heap_old (Num.heap_new w7 (mb 0 0)) (.cells #[.int .i64 (1 + z), .int .i64 2, .int .i64 3, .int .i64 5] 3)); have z0 : w8.cell? ⟨w7.heap.size, 0, none⟩ = some (.int .i64 0) := cs_cell mM9c 0; have z1 : w8.cell? ⟨w7.heap.size, 1, none⟩ = some (.int .i64 0) := cs_cell mM9c 1; have y0 : w8.frozen? ⟨w7.heap.size, 0, none⟩ = false := cs_frozen mM9c 0; have y1 : w8.frozen? ⟨w7.heap.size, 1, none⟩ = false := cs_frozen mM9c 1; have nz : ¬ w7.heap.size = P := (by omega); have nz' : ¬ P = w7.heap.size := (by omega)))
    all_goals
      have mR9 := Num.kept_new L9 mR8
      have mQ9 := Num.kept_new L9 mQ8
      have hc9 := (C8.kept L9).lt
      have hq7 : w.heap.size + 1 < w6.heap.size := (Array.getElem?_eq_some_iff.1 mQ7).1
      have hq8 : w.heap.size + 1 < w7.heap.size := (Array.getElem?_eq_some_iff.1 mQ8).1
      have hq9 : w.heap.size + 1 < w8.heap.size := (Array.getElem?_eq_some_iff.1 mQ9).1
      have hW0 : W0.heap.size = c := hs0
      have hc6 := C7.lt
      first
      | (have hM := mark_set r s mM9a
         have mPa := two_other (M := w6.heap.size) (.int .i64 r) (.int .i64 s) mP9 (by omega)
         have mRa := two_other (M := w6.heap.size) (.int .i64 r) (.int .i64 s) mR9 (by omega)
         have mQa := two_other (M := w6.heap.size) (.int .i64 r) (.int .i64 s) mQ9 (by omega)
         have C9 := ((C8.kept L9).set (w6.heap.size) 0 (.int .i64 r) (by omega) (by omega)).set (w6.heap.size) 1 (.int .i64 s) (by omega) (by omega)
         have hMb : w.heap.size + 1 < w6.heap.size ∧ P ≠ w6.heap.size ∧ c ≠ w6.heap.size := (by omega)
         clear mM9a z0 z1 y0 y1 nz nz'
         generalize w6.heap.size = M at *)
      | (have hM := mark_set r s mM9b
         have mPa := two_other (M := w7.heap.size + 1) (.int .i64 r) (.int .i64 s) mP9 (by omega)
         have mRa := two_other (M := w7.heap.size + 1) (.int .i64 r) (.int .i64 s) mR9 (by omega)
         have mQa := two_other (M := w7.heap.size + 1) (.int .i64 r) (.int .i64 s) mQ9 (by omega)
         have C9 := ((C8.kept L9).set (w7.heap.size + 1) 0 (.int .i64 r) (by omega) (by omega)).set (w7.heap.size + 1) 1 (.int .i64 s) (by omega) (by omega)
         have hMb : w.heap.size + 1 < w7.heap.size + 1 ∧ P ≠ w7.heap.size + 1 ∧ c ≠ w7.heap.size + 1 := (by omega)
         clear mM9b z0 z1 y0 y1 nz nz'
         generalize w7.heap.size + 1 = M at *)
      | (have hM := mark_set r s mM9c
         have mPa := two_other (M := w7.heap.size) (.int .i64 r) (.int .i64 s) mP9 (by omega)
         have mRa := two_other (M := w7.heap.size) (.int .i64 r) (.int .i64 s) mR9 (by omega)
         have mQa := two_other (M := w7.heap.size) (.int .i64 r) (.int .i64 s) mQ9 (by omega)
         have C9 := ((C8.kept L9).set (w7.heap.size) 0 (.int .i64 r) (by omega) (by omega)).set (w7.heap.size) 1 (.int .i64 s) (by omega) (by omega)
         have hMb : w.heap.size + 1 < w7.heap.size ∧ P ≠ w7.heap.size ∧ c ≠ w7.heap.size := (by omega)
         clear mM9c z0 z1 y0 y1 nz nz'
         generalize w7.heap.size = M at *)
      | (have hM := Num.heap_new w8 (mb r s)
         have mPa := Num.heap_old mP9 (mb r s)
         have mRa := Num.heap_old mR9 (mb r s)
         have mQa := Num.heap_old mQ9 (mb r s)
         have C9 := (C8.kept L9).alloc (mb r s)
         have hMb : w.heap.size + 1 < w8.heap.size ∧ P ≠ w8.heap.size ∧ c ≠ w8.heap.size := (by omega)
         generalize w8.heap.size = M at *)
      obtain ⟨hMb1, hMb2, hMb3⟩ := hMb
      go_wp2_with fail
      go_meet
      case rel => exact ⟨M, r, s, si, sd, rfl, rfl, rfl, C9, hM, mPa, mRa, mQa, hMb1, hMb2, hMb3, hr0, hr1, hs0', hs1⟩
  case rest =>
    obtain ⟨M, r, s, si, sd, rfl, rfl, rfl, C9, hM, mPa, mRa, mQa, hMb1, hMb2, hMb3, hr0, hr1, hs0', hs1⟩ := hcut
    clear mP7 mR7 mQ7 nP7 nR7 nQ7 nM7 C7 C7d C7e c0 c1 c2 HSA hw1 hPlt hc7
    go_wp2_with fail
    refine (below_any C9 _).mono ?_
    rintro e w10 ⟨⟨v, rfl, hv0, hv1⟩, C10, M10⟩
    have hv2 := hv1 (by omega)
    have mP := (M10.block P (by omega)).trans mPa
    have mM := (M10.block M (by omega)).trans hM
    have mR := (M10.block w.heap.size (by omega)).trans mRa
    have mQ := (M10.block (w.heap.size + 1) (by omega)).trans mQa
    clear hv1 mPa hM mRa mQa C9 M10
    have n1 : ¬ P = w.heap.size := by omega
    have n2 : ¬ w.heap.size = P := by omega
    have n3 : ¬ P = w.heap.size + 1 := by omega
    have n4 : ¬ w.heap.size + 1 = P := by omega
    have n5 : ¬ M = w.heap.size := by omega
    have n6 : ¬ w.heap.size = M := by omega
    have n7 : ¬ M = w.heap.size + 1 := by omega
    have n8 : ¬ w.heap.size + 1 = M := by omega
    have n9 : ¬ M = P := by omega
    have n10 : ¬ P = M := by omega
    have hPge : w.heap.size ≤ P := by omega
    have hMge : w.heap.size ≤ M := by omega
    by_cases v0 : v = 0
    · subst v0
      have RW := row_any w10 [0, q, r + 1, r + q] (fun z => 0 ≤ z ∧ z ≤ 4000000) (by intro y hy; simp at hy; rcases hy with rfl | rfl | rfl | rfl <;> omega)
      have C11 := C10.alloc (.cells (([0, q, r + 1, r + q] : List Int).map (Value.int .i64)).toArray 3)
      have N11 : Below w10.heap.size w10 (w10.alloc (.cells (([0, q, r + 1, r + q] : List Int).map (Value.int .i64)).toArray 3)) := (Below.refl _ _).alloc (Nat.le_refl _) _
      have xP := Num.kept_new N11 mP
      have xM := Num.kept_new N11 mM
      have xR := Num.kept_new N11 mR
      have xQ := Num.kept_new N11 mQ
      have hc10 := C10.lt
      have i0 : w10.cell? ⟨P, 0, none⟩ = some (.int .i64 p) := cs_cell mP 0
      have i1 : w10.cell? ⟨P, 1, none⟩ = some (.int .i64 q) := cs_cell mP 1
      have j0 : w10.cell? ⟨M, 0, none⟩ = some (.int .i64 r) := cs_cell mM 0
      have j1 : w10.cell? ⟨M, 1, none⟩ = some (.int .i64 s) := cs_cell mM 1
      clear mP mM mR mQ N11
      go_wp2_with fail
      refine (pickInt_any C11 (fun z => 0 ≤ z ∧ z ≤ 4000000) w10.heap.size 4 4 (by omega) (by omega) (by omega) RW).mono ?_
      rintro e w12 ⟨⟨u, rfl, hu⟩, C12, M12⟩
      have mP := (M12.block P (by omega)).trans xP
      have mM := (M12.block M (by omega)).trans xM
      have mR := (M12.block w.heap.size (by omega)).trans xR
      have mQ := (M12.block (w.heap.size + 1) (by omega)).trans xQ
      have LL := L0.trans (C12.below.mono L0.size)
      clear xP xM xR xQ M12 C11 RW i0 i1 j0 j1
      have d0 : w12.cell? ⟨M, 0, none⟩ = some (.int .i64 r) := cs_cell mM 0
      have d1 : w12.cell? ⟨M, 1, none⟩ = some (.int .i64 s) := cs_cell mM 1
      have k0 := cs_frozen mM 0
      have k1 := cs_frozen mM 1
      have oM : (w12.setCell ⟨M, 0, none⟩ (.int .i64 u)).heap[M]? = some (mb u s) := hs_same (i := 0) mM (.int .i64 u)
      have oP : (w12.setCell ⟨M, 0, none⟩ (.int .i64 u)).heap[P]? = some (pb p q g) := hs_other mP n10 (.int .i64 u)
      have oR : (w12.setCell ⟨M, 0, none⟩ (.int .i64 u)).heap[w.heap.size]? = some (pb 0 0 0) := hs_other mR n6 (.int .i64 u)
      have oQ : (w12.setCell ⟨M, 0, none⟩ (.int .i64 u)).heap[w.heap.size + 1]? = some (mb 0 0) := hs_other mQ n8 (.int .i64 u)
      have OL : Below w.heap.size w (w12.setCell ⟨M, 0, none⟩ (.int .i64 u)) := LL.setCell hMge (.int .i64 u)
      go_wp2
      clear d0 d1 k0 k1 mM mP mR mQ LL
      generalize (w12.setCell ⟨M, 0, none⟩ (.int .i64 u)) = w20 at *
      have mM := oM
      have mP := oP
      have mR := oR
      have mQ := oQ
      have LL := OL
      clear oM oP oR oQ OL
      have a0 : w20.cell? ⟨P, 0, none⟩ = some (.int .i64 p) := cs_cell mP 0
      have a1 : w20.cell? ⟨P, 1, none⟩ = some (.int .i64 q) := cs_cell mP 1
      have a2 : w20.cell? ⟨P, 2, none⟩ = some (.int .i64 g) := cs_cell mP 2
      have d0 : w20.cell? ⟨M, 0, none⟩ = some (.int .i64 u) := cs_cell mM 0
      have d1 : w20.cell? ⟨M, 1, none⟩ = some (.int .i64 s) := cs_cell mM 1
      have b0 : w20.cell? ⟨w.heap.size, 0, none⟩ = some (.int .i64 0) := cs_cell mR 0
      have b1 : w20.cell? ⟨w.heap.size, 1, none⟩ = some (.int .i64 0) := cs_cell mR 1
      have b2 : w20.cell? ⟨w.heap.size, 2, none⟩ = some (.int .i64 0) := cs_cell mR 2
      have e0 : w20.cell? ⟨w.heap.size + 1, 0, none⟩ = some (.int .i64 0) := cs_cell mQ 0
      have e1 : w20.cell? ⟨w.heap.size + 1, 1, none⟩ = some (.int .i64 0) := cs_cell mQ 1
      have f0 := cs_frozen mR 0
      have f1 := cs_frozen mR 1
      have f2 := cs_frozen mR 2
      have g0 := cs_frozen mQ 0
      have g1 := cs_frozen mQ 1
      clear mP mM mR mQ
      go_region_held3 (fun w' => w'.cell? ⟨P, 0, none⟩ = some (.int .i64 p) ∧ w'.cell? ⟨P, 1, none⟩ = some (.int .i64 q) ∧ w'.cell? ⟨P, 2, none⟩ = some (.int .i64 g) ∧ w'.cell? ⟨M, 0, none⟩ = some (.int .i64 u) ∧ w'.cell? ⟨M, 1, none⟩ = some (.int .i64 s)) (go_keep) (fail)
      all_goals
        go_wp2
        refine bodyPost_ret (v := .tuple #[pv p q g, .int .i64 o, .string (t), mv u s]) (by simp [results, Tryd.results9, go_sem, b0, b1, b2, e0, e1]) rfl ?_
        refine ⟨⟨_, _, _, _, _, _, _, rfl, by omega, hu.1, hu.2⟩, ?_⟩
        (repeat' (first | apply Below.setCell | apply Below.drew | exact LL)) <;> first | exact Nat.le_refl _ | exact Nat.le_succ _ | exact hPge | exact hMge
    by_cases v1 : v = 1
    · subst v1
      have RW := row_any w10 [0, q, s + 1, s + q] (fun z => 0 ≤ z ∧ z ≤ 4000000) (by intro y hy; simp at hy; rcases hy with rfl | rfl | rfl | rfl <;> omega)
      have C11 := C10.alloc (.cells (([0, q, s + 1, s + q] : List Int).map (Value.int .i64)).toArray 3)
      have N11 : Below w10.heap.size w10 (w10.alloc (.cells (([0, q, s + 1, s + q] : List Int).map (Value.int .i64)).toArray 3)) := (Below.refl _ _).alloc (Nat.le_refl _) _
      have xP := Num.kept_new N11 mP
      have xM := Num.kept_new N11 mM
      have xR := Num.kept_new N11 mR
      have xQ := Num.kept_new N11 mQ
      have hc10 := C10.lt
      have i0 : w10.cell? ⟨P, 0, none⟩ = some (.int .i64 p) := cs_cell mP 0
      have i1 : w10.cell? ⟨P, 1, none⟩ = some (.int .i64 q) := cs_cell mP 1
      have j0 : w10.cell? ⟨M, 0, none⟩ = some (.int .i64 r) := cs_cell mM 0
      have j1 : w10.cell? ⟨M, 1, none⟩ = some (.int .i64 s) := cs_cell mM 1
      clear mP mM mR mQ N11
      go_wp2_with fail
      refine (pickInt_any C11 (fun z => 0 ≤ z ∧ z ≤ 4000000) w10.heap.size 4 4 (by omega) (by omega) (by omega) RW).mono ?_
      rintro e w12 ⟨⟨u, rfl, hu⟩, C12, M12⟩
      have mP := (M12.block P (by omega)).trans xP
      have mM := (M12.block M (by omega)).trans xM
      have mR := (M12.block w.heap.size (by omega)).trans xR
      have mQ := (M12.block (w.heap.size + 1) (by omega)).trans xQ
      have LL := L0.trans (C12.below.mono L0.size)
      clear xP xM xR xQ M12 C11 RW i0 i1 j0 j1
      have d0 : w12.cell? ⟨M, 0, none⟩ = some (.int .i64 r) := cs_cell mM 0
      have d1 : w12.cell? ⟨M, 1, none⟩ = some (.int .i64 s) := cs_cell mM 1
      have k0 := cs_frozen mM 0
      have k1 := cs_frozen mM 1
      have oM : (w12.setCell ⟨M, 1, none⟩ (.int .i64 u)).heap[M]? = some (mb r u) := hs_same (i := 1) mM (.int .i64 u)
      have oP : (w12.setCell ⟨M, 1, none⟩ (.int .i64 u)).heap[P]? = some (pb p q g) := hs_other mP n10 (.int .i64 u)
      have oR : (w12.setCell ⟨M, 1, none⟩ (.int .i64 u)).heap[w.heap.size]? = some (pb 0 0 0) := hs_other mR n6 (.int .i64 u)
      have oQ : (w12.setCell ⟨M, 1, none⟩ (.int .i64 u)).heap[w.heap.size + 1]? = some (mb 0 0) := hs_other mQ n8 (.int .i64 u)
      have OL : Below w.heap.size w (w12.setCell ⟨M, 1, none⟩ (.int .i64 u)) := LL.setCell hMge (.int .i64 u)
      go_wp2
      clear d0 d1 k0 k1 mM mP mR mQ LL
      generalize (w12.setCell ⟨M, 1, none⟩ (.int .i64 u)) = w20 at *
      have mM := oM
      have mP := oP
      have mR := oR
      have mQ := oQ
      have LL := OL
      clear oM oP oR oQ OL
      have a0 : w20.cell? ⟨P, 0, none⟩ = some (.int .i64 p) := cs_cell mP 0
      have a1 : w20.cell? ⟨P, 1, none⟩ = some (.int .i64 q) := cs_cell mP 1
      have a2 : w20.cell? ⟨P, 2, none⟩ = some (.int .i64 g) := cs_cell mP 2
      have d0 : w20.cell? ⟨M, 0, none⟩ = some (.int .i64 r) := cs_cell mM 0
      have d1 : w20.cell? ⟨M, 1, none⟩ = some (.int .i64 u) := cs_cell mM 1
      have b0 : w20.cell? ⟨w.heap.size, 0, none⟩ = some (.int .i64 0) := cs_cell mR 0
      have b1 : w20.cell? ⟨w.heap.size, 1, none⟩ = some (.int .i64 0) := cs_cell mR 1
      have b2 : w20.cell? ⟨w.heap.size, 2, none⟩ = some (.int .i64 0) := cs_cell mR 2
      have e0 : w20.cell? ⟨w.heap.size + 1, 0, none⟩ = some (.int .i64 0) := cs_cell mQ 0
      have e1 : w20.cell? ⟨w.heap.size + 1, 1, none⟩ = some (.int .i64 0) := cs_cell mQ 1
      have f0 := cs_frozen mR 0
      have f1 := cs_frozen mR 1
      have f2 := cs_frozen mR 2
      have g0 := cs_frozen mQ 0
      have g1 := cs_frozen mQ 1
      clear mP mM mR mQ
      go_region_held3 (fun w' => w'.cell? ⟨P, 0, none⟩ = some (.int .i64 p) ∧ w'.cell? ⟨P, 1, none⟩ = some (.int .i64 q) ∧ w'.cell? ⟨P, 2, none⟩ = some (.int .i64 g) ∧ w'.cell? ⟨M, 0, none⟩ = some (.int .i64 r) ∧ w'.cell? ⟨M, 1, none⟩ = some (.int .i64 u)) (go_keep) (fail)
      all_goals
        go_wp2
        refine bodyPost_ret (v := .tuple #[pv p q g, .int .i64 o, .string (t), mv r u]) (by simp [results, Tryd.results9, go_sem, b0, b1, b2, e0, e1]) rfl ?_
        refine ⟨⟨_, _, _, _, _, _, _, rfl, by omega, hr0, by omega⟩, ?_⟩
        (repeat' (first | apply Below.setCell | apply Below.drew | exact LL)) <;> first | exact Nat.le_refl _ | exact Nat.le_succ _ | exact hPge | exact hMge
    by_cases v2 : v = 2
    · subst v2
      have RW := row_any w10 [0, 1, p, o + 1] (fun z => 0 ≤ z ∧ z ≤ 40000000) (by intro y hy; simp at hy; rcases hy with rfl | rfl | rfl | rfl <;> omega)
      have C11 := C10.alloc (.cells (([0, 1, p, o + 1] : List Int).map (Value.int .i64)).toArray 3)
      have N11 : Below w10.heap.size w10 (w10.alloc (.cells (([0, 1, p, o + 1] : List Int).map (Value.int .i64)).toArray 3)) := (Below.refl _ _).alloc (Nat.le_refl _) _
      have xP := Num.kept_new N11 mP
      have xM := Num.kept_new N11 mM
      have xR := Num.kept_new N11 mR
      have xQ := Num.kept_new N11 mQ
      have hc10 := C10.lt
      have i0 : w10.cell? ⟨P, 0, none⟩ = some (.int .i64 p) := cs_cell mP 0
      have i1 : w10.cell? ⟨P, 1, none⟩ = some (.int .i64 q) := cs_cell mP 1
      have j0 : w10.cell? ⟨M, 0, none⟩ = some (.int .i64 r) := cs_cell mM 0
      have j1 : w10.cell? ⟨M, 1, none⟩ = some (.int .i64 s) := cs_cell mM 1
      clear mP mM mR mQ N11
      go_wp2_with fail
      refine (pickInt_any C11 (fun z => 0 ≤ z ∧ z ≤ 40000000) w10.heap.size 4 4 (by omega) (by omega) (by omega) RW).mono ?_
      rintro e w12 ⟨⟨u, rfl, hu⟩, C12, M12⟩
      have mP := (M12.block P (by omega)).trans xP
      have mM := (M12.block M (by omega)).trans xM
      have mR := (M12.block w.heap.size (by omega)).trans xR
      have mQ := (M12.block (w.heap.size + 1) (by omega)).trans xQ
      have LL := L0.trans (C12.below.mono L0.size)
      clear xP xM xR xQ M12 C11 RW i0 i1 j0 j1
      have a0 : w12.cell? ⟨P, 0, none⟩ = some (.int .i64 p) := cs_cell mP 0
      have a1 : w12.cell? ⟨P, 1, none⟩ = some (.int .i64 q) := cs_cell mP 1
      have a2 : w12.cell? ⟨P, 2, none⟩ = some (.int .i64 g) := cs_cell mP 2
      have d0 : w12.cell? ⟨M, 0, none⟩ = some (.int .i64 r) := cs_cell mM 0
      have d1 : w12.cell? ⟨M, 1, none⟩ = some (.int .i64 s) := cs_cell mM 1
      have b0 : w12.cell? ⟨w.heap.size, 0, none⟩ = some (.int .i64 0) := cs_cell mR 0
      have b1 : w12.cell? ⟨w.heap.size, 1, none⟩ = some (.int .i64 0) := cs_cell mR 1
      have b2 : w12.cell? ⟨w.heap.size, 2, none⟩ = some (.int .i64 0) := cs_cell mR 2
      have e0 : w12.cell? ⟨w.heap.size + 1, 0, none⟩ = some (.int .i64 0) := cs_cell mQ 0
      have e1 : w12.cell? ⟨w.heap.size + 1, 1, none⟩ = some (.int .i64 0) := cs_cell mQ 1
      have f0 := cs_frozen mR 0
      have f1 := cs_frozen mR 1
      have f2 := cs_frozen mR 2
      have g0 := cs_frozen mQ 0
      have g1 := cs_frozen mQ 1
      clear mP mM mR mQ
      go_wp2
      go_region_held3 (fun w' => w'.cell? ⟨P, 0, none⟩ = some (.int .i64 p) ∧ w'.cell? ⟨P, 1, none⟩ = some (.int .i64 q) ∧ w'.cell? ⟨P, 2, none⟩ = some (.int .i64 g) ∧ w'.cell? ⟨M, 0, none⟩ = some (.int .i64 r) ∧ w'.cell? ⟨M, 1, none⟩ = some (.int .i64 s)) (go_keep) (fail)
      all_goals
        go_wp2
        refine bodyPost_ret (v := .tuple #[pv p q g, .int .i64 u, .string (t), mv r s]) (by simp [results, Tryd.results9, go_sem, b0, b1, b2, e0, e1]) rfl ?_
        refine ⟨⟨_, _, _, _, _, _, _, rfl, by omega, hr0, by omega⟩, ?_⟩
        (repeat' (first | apply Below.setCell | apply Below.drew | exact LL)) <;> first | exact Nat.le_refl _ | exact Nat.le_succ _ | exact hPge | exact hMge
    by_cases v3 : v = 3
    · subst v3
      have LL := L0.trans (C10.below.mono L0.size)
      have hbt : ¬ 9223372036854775807 < t.size + 1 := by omega
      have hts : (t ++ ⟨#[120]⟩ : ByteArray).size ≤ 100 := by rw [ByteArray.size_append]; have : (⟨#[120]⟩ : ByteArray).size = 1 := rfl; omega
      have a0 : w10.cell? ⟨P, 0, none⟩ = some (.int .i64 p) := cs_cell mP 0
      have a1 : w10.cell? ⟨P, 1, none⟩ = some (.int .i64 q) := cs_cell mP 1
      have a2 : w10.cell? ⟨P, 2, none⟩ = some (.int .i64 g) := cs_cell mP 2
      have d0 : w10.cell? ⟨M, 0, none⟩ = some (.int .i64 r) := cs_cell mM 0
      have d1 : w10.cell? ⟨M, 1, none⟩ = some (.int .i64 s) := cs_cell mM 1
      have b0 : w10.cell? ⟨w.heap.size, 0, none⟩ = some (.int .i64 0) := cs_cell mR 0
      have b1 : w10.cell? ⟨w.heap.size, 1, none⟩ = some (.int .i64 0) := cs_cell mR 1
      have b2 : w10.cell? ⟨w.heap.size, 2, none⟩ = some (.int .i64 0) := cs_cell mR 2
      have e0 : w10.cell? ⟨w.heap.size + 1, 0, none⟩ = some (.int .i64 0) := cs_cell mQ 0
      have e1 : w10.cell? ⟨w.heap.size + 1, 1, none⟩ = some (.int .i64 0) := cs_cell mQ 1
      have f0 := cs_frozen mR 0
      have f1 := cs_frozen mR 1
      have f2 := cs_frozen mR 2
      have g0 := cs_frozen mQ 0
      have g1 := cs_frozen mQ 1
      clear mP mM mR mQ
      go_wp2
      go_region_held3 (fun w' => w'.cell? ⟨P, 0, none⟩ = some (.int .i64 p) ∧ w'.cell? ⟨P, 1, none⟩ = some (.int .i64 q) ∧ w'.cell? ⟨P, 2, none⟩ = some (.int .i64 g) ∧ w'.cell? ⟨M, 0, none⟩ = some (.int .i64 r) ∧ w'.cell? ⟨M, 1, none⟩ = some (.int .i64 s)) (go_keep) (fail)
      all_goals
        go_wp2
        refine bodyPost_ret (v := .tuple #[pv p q g, .int .i64 o, .string (t ++ ⟨#[120]⟩), mv r s]) (by simp [results, Tryd.results9, go_sem, b0, b1, b2, e0, e1]) rfl ?_
        refine ⟨⟨_, _, _, _, _, _, _, rfl, hts, hr0, by omega⟩, ?_⟩
        (repeat' (first | apply Below.setCell | apply Below.drew | exact LL)) <;> first | exact Nat.le_refl _ | exact Nat.le_succ _ | exact hPge | exact hMge
    by_cases v4 : v = 4
    · subst v4
      go_wp2_with fail
      refine (spoilt_any C10).mono ?_
      rintro e w12 ⟨⟨p', q', g', rfl⟩, C12, K12⟩
      have xP := K12.at hpc mP
      have xM := K12.at (show M ≠ c by omega) mM
      have xR := K12.at (show w.heap.size ≠ c by omega) mR
      have xQ := K12.at (show w.heap.size + 1 ≠ c by omega) mQ
      have LL := L0.trans (C12.below.mono L0.size)
      clear mP mM mR mQ K12
      have mP := xP
      have mM := xM
      have mR := xR
      have mQ := xQ
      clear xP xM xR xQ
      have a0 : w12.cell? ⟨P, 0, none⟩ = some (.int .i64 p) := cs_cell mP 0
      have a1 : w12.cell? ⟨P, 1, none⟩ = some (.int .i64 q) := cs_cell mP 1
      have a2 : w12.cell? ⟨P, 2, none⟩ = some (.int .i64 g) := cs_cell mP 2
      have h0 := cs_frozen mP 0
      have h1 := cs_frozen mP 1
      have h2 := cs_frozen mP 2
      have oP : (((w12.setCell ⟨P, 0, none⟩ (.int .i64 p')).setCell ⟨P, 1, none⟩ (.int .i64 q')).setCell ⟨P, 2, none⟩ (.int .i64 g')).heap[P]? = some (pb p' q' g') := hs_same (i := 2) (hs_same (i := 1) (hs_same (i := 0) mP (.int .i64 p')) (.int .i64 q')) (.int .i64 g')
      have oM : (((w12.setCell ⟨P, 0, none⟩ (.int .i64 p')).setCell ⟨P, 1, none⟩ (.int .i64 q')).setCell ⟨P, 2, none⟩ (.int .i64 g')).heap[M]? = some (mb r s) := hs_other (hs_other (hs_other mM n9 (.int .i64 p')) n9 (.int .i64 q')) n9 (.int .i64 g')
      have oR : (((w12.setCell ⟨P, 0, none⟩ (.int .i64 p')).setCell ⟨P, 1, none⟩ (.int .i64 q')).setCell ⟨P, 2, none⟩ (.int .i64 g')).heap[w.heap.size]? = some (pb 0 0 0) := hs_other (hs_other (hs_other mR n2 (.int .i64 p')) n2 (.int .i64 q')) n2 (.int .i64 g')
      have oQ : (((w12.setCell ⟨P, 0, none⟩ (.int .i64 p')).setCell ⟨P, 1, none⟩ (.int .i64 q')).setCell ⟨P, 2, none⟩ (.int .i64 g')).heap[w.heap.size + 1]? = some (mb 0 0) := hs_other (hs_other (hs_other mQ n4 (.int .i64 p')) n4 (.int .i64 q')) n4 (.int .i64 g')
      have OL : Below w.heap.size w (((w12.setCell ⟨P, 0, none⟩ (.int .i64 p')).setCell ⟨P, 1, none⟩ (.int .i64 q')).setCell ⟨P, 2, none⟩ (.int .i64 g')) := ((LL.setCell hPge (.int .i64 p')).setCell hPge (.int .i64 q')).setCell hPge (.int .i64 g')
      go_wp2
      clear a0 a1 a2 h0 h1 h2 mM mP mR mQ LL
      generalize (((w12.setCell ⟨P, 0, none⟩ (.int .i64 p')).setCell ⟨P, 1, none⟩ (.int .i64 q')).setCell ⟨P, 2, none⟩ (.int .i64 g')) = w20 at *
      have mM := oM
      have mP := oP
      have mR := oR
      have mQ := oQ
      have LL := OL
      clear oM oP oR oQ OL
      have a0 : w20.cell? ⟨P, 0, none⟩ = some (.int .i64 p') := cs_cell mP 0
      have a1 : w20.cell? ⟨P, 1, none⟩ = some (.int .i64 q') := cs_cell mP 1
      have a2 : w20.cell? ⟨P, 2, none⟩ = some (.int .i64 g') := cs_cell mP 2
      have d0 : w20.cell? ⟨M, 0, none⟩ = some (.int .i64 r) := cs_cell mM 0
      have d1 : w20.cell? ⟨M, 1, none⟩ = some (.int .i64 s) := cs_cell mM 1
      have b0 : w20.cell? ⟨w.heap.size, 0, none⟩ = some (.int .i64 0) := cs_cell mR 0
      have b1 : w20.cell? ⟨w.heap.size, 1, none⟩ = some (.int .i64 0) := cs_cell mR 1
      have b2 : w20.cell? ⟨w.heap.size, 2, none⟩ = some (.int .i64 0) := cs_cell mR 2
      have e0 : w20.cell? ⟨w.heap.size + 1, 0, none⟩ = some (.int .i64 0) := cs_cell mQ 0
      have e1 : w20.cell? ⟨w.heap.size + 1, 1, none⟩ = some (.int .i64 0) := cs_cell mQ 1
      have f0 := cs_frozen mR 0
      have f1 := cs_frozen mR 1
      have f2 := cs_frozen mR 2
      have g0 := cs_frozen mQ 0
      have g1 := cs_frozen mQ 1
      clear mP mM mR mQ
      go_region_held3 (fun w' => w'.cell? ⟨P, 0, none⟩ = some (.int .i64 p') ∧ w'.cell? ⟨P, 1, none⟩ = some (.int .i64 q') ∧ w'.cell? ⟨P, 2, none⟩ = some (.int .i64 g') ∧ w'.cell? ⟨M, 0, none⟩ = some (.int .i64 r) ∧ w'.cell? ⟨M, 1, none⟩ = some (.int .i64 s)) (go_keep) (fail)
      all_goals
        go_wp2
        refine bodyPost_ret (v := .tuple #[pv p' q' g', .int .i64 o, .string (t), mv r s]) (by simp [results, Tryd.results9, go_sem, b0, b1, b2, e0, e1]) rfl ?_
        refine ⟨⟨_, _, _, _, _, _, _, rfl, by omega, hr0, by omega⟩, ?_⟩
        (repeat' (first | apply Below.setCell | apply Below.drew | exact LL)) <;> first | exact Nat.le_refl _ | exact Nat.le_succ _ | exact hPge | exact hMge
    have y0 : (v == 0) = false := beq_eq_false_iff_ne.2 v0
    have y1 : (v == 1) = false := beq_eq_false_iff_ne.2 v1
    have y2 : (v == 2) = false := beq_eq_false_iff_ne.2 v2
    have y3 : (v == 3) = false := beq_eq_false_iff_ne.2 v3
    have y4 : (v == 4) = false := beq_eq_false_iff_ne.2 v4
    have LL := L0.trans (C10.below.mono L0.size)
    clear v0 v1 v2 v3 v4
    have a0 : w10.cell? ⟨P, 0, none⟩ = some (.int .i64 p) := cs_cell mP 0
    have a1 : w10.cell? ⟨P, 1, none⟩ = some (.int .i64 q) := cs_cell mP 1
    have a2 : w10.cell? ⟨P, 2, none⟩ = some (.int .i64 g) := cs_cell mP 2
    have d0 : w10.cell? ⟨M, 0, none⟩ = some (.int .i64 r) := cs_cell mM 0
    have d1 : w10.cell? ⟨M, 1, none⟩ = some (.int .i64 s) := cs_cell mM 1
    have b0 : w10.cell? ⟨w.heap.size, 0, none⟩ = some (.int .i64 0) := cs_cell mR 0
    have b1 : w10.cell? ⟨w.heap.size, 1, none⟩ = some (.int .i64 0) := cs_cell mR 1
    have b2 : w10.cell? ⟨w.heap.size, 2, none⟩ = some (.int .i64 0) := cs_cell mR 2
    have e0 : w10.cell? ⟨w.heap.size + 1, 0, none⟩ = some (.int .i64 0) := cs_cell mQ 0
    have e1 : w10.cell? ⟨w.heap.size + 1, 1, none⟩ = some (.int .i64 0) := cs_cell mQ 1
    have f0 := cs_frozen mR 0
    have f1 := cs_frozen mR 1
    have f2 := cs_frozen mR 2
    have g0 := cs_frozen mQ 0
    have g1 := cs_frozen mQ 1
    clear mP mM mR mQ
    go_wp2
    go_region_held3 (fun w' => w'.cell? ⟨P, 0, none⟩ = some (.int .i64 p) ∧ w'.cell? ⟨P, 1, none⟩ = some (.int .i64 q) ∧ w'.cell? ⟨P, 2, none⟩ = some (.int .i64 g) ∧ w'.cell? ⟨M, 0, none⟩ = some (.int .i64 r) ∧ w'.cell? ⟨M, 1, none⟩ = some (.int .i64 s)) (go_keep) (fail)
    all_goals
      go_wp2
      refine bodyPost_ret (v := .tuple #[pv p q g, .int .i64 o, .string (t), mv r s]) (by simp [results, Tryd.results9, go_sem, b0, b1, b2, e0, e1]) rfl ?_
      refine ⟨⟨_, _, _, _, _, _, _, rfl, by omega, hr0, by omega⟩, ?_⟩
      (repeat' (first | apply Below.setCell | apply Below.drew | exact LL)) <;> first | exact Nat.le_refl _ | exact Nat.le_succ _ | exact hPge | exact hMge

end Cur
end Go.Proofs.YtllmmelnkkmfoabDoor
