/- Contracts of the laws' own helpers over orders: their size, a copy, two of them held against each other; an order that came in. -/
import Derived.Test.YtehmlnojjfeheaaGreatOfRides
import Derived.Deep.Slices
import Derived.Deep.Strs
import Derived.Lib.SmallJoins
namespace Go.Proofs.YtehmlnojjfeheaaGreat
namespace Od
open Go.ChangeShapes Go.WideShapes Go.ChangeAt Go.RowKit Go.Joins
open Pk (new_below join_below cell_at heap_new frozen_at lt_of kept heap_old info_of Room)
open Rd (Ri Rides)
set_option linter.unusedSimpArgs false
set_option linter.unusedVariables false

/-- An order, its rides aside. -/
structure Hd where
  id : Int
  st : Int
  nm : ByteArray
  cl : Int
  ca : Int
  pr : Int
  pa : Int
  fi : Int

/-- An order. -/
structure Oo where
  h : Hd
  l : List Ri

/-- An order as a value. -/
abbrev odV (t : Hd) (a : Option Addr) (n cap : Nat) : Value := .agg #[.int .i64 t.id, .int .i64 t.st, .string t.nm, .int .i64 t.cl, .int .i64 t.ca, .slice a n cap, .int .i64 t.pr, .int .i64 t.pa, .int .i64 t.fi]

/-- An order in a block of its own. -/
abbrev odB (t : Hd) (a : Option Addr) (n cap : Nat) (ty : TypeId) : Obj := .cells #[.int .i64 t.id, .int .i64 t.st, .string t.nm, .int .i64 t.cl, .int .i64 t.ca, .slice a n cap, .int .i64 t.pr, .int .i64 t.pa, .int .i64 t.fi] ty

theorem named {P : Program} {f : FuncId} {args : Array Value} {w : World} {post : Ending → World → Prop} (h : ∀ W, W = w → Calls P f args W post) : Calls P f args w post := h w rfl

theorem three_blocks (w : World) (a b c : Obj) : (((w.alloc a).alloc b).alloc c).heap[w.heap.size]? = some a ∧ (((w.alloc a).alloc b).alloc c).heap[w.heap.size + 1]? = some b ∧ (((w.alloc a).alloc b).alloc c).heap[w.heap.size + 1 + 1]? = some c := by
  have e1 : (w.alloc a).heap.size = w.heap.size + 1 := Array.size_push ..
  have e2 : ((w.alloc a).alloc b).heap.size = w.heap.size + 1 + 1 := by rw [← e1]; exact Array.size_push ..
  refine ⟨heap_old (heap_old (heap_new w a) b) c, ?_, ?_⟩
  · rw [← e1]; exact heap_old (heap_new (w.alloc a) b) c
  · rw [← e2]; exact heap_new ((w.alloc a).alloc b) c

theorem cell_other {w : World} {b o : Nat} {p : Addr} {u : Value} (h : p.block ≠ b) : (w.setCell ⟨b, o, none⟩ u).cell? p = w.cell? p := World.cell?_of_block (Below.heap_setCell _ _ _ _ h)

theorem szOrder_yes (t : Hd) (a : Option Addr) (n cap : Nat) (z : Int) (w : World) (hz : z ≤ 1048576) (h : (t.nm.size : Int) + (n : Int) ≤ z) :
    Calls Tryz.prog 39 #[odV t a n cap, .int .i64 z] w fun e w' => e = .returned (.int .i64 (z - (t.nm.size : Int) - (n : Int))) ∧ Below w.heap.size w w' := by
  have N := new_below w (odB t a n cap 76)
  have HR : Hid (∀ w, _) := fun w => Rd.szRideS_yes a n cap (z - (t.nm.size : Int)) w (by omega) (by omega)
  have hd : decide (z - (t.nm.size : Int) < 0) = false := decide_eq_false (by omega)
  have hd2 : decide (z - (t.nm.size : Int) - (n : Int) < 0) = false := decide_eq_false (by omega)
  obtain ⟨i, st, s, cl, ca, pr, pa, fi⟩ := t
  simp only at *
  go_enter Tryz.func39, Tryz.ntmps39
  go_wp2_with fail
  refine (HR.out _).mono ?_
  rintro e w1 ⟨rfl, rfl⟩
  go_wp2
  go_ret
  exact ⟨rfl, N⟩

theorem szOrder_no (t : Hd) (a : Option Addr) (n cap : Nat) (z : Int) (w : World) (hz : z ≤ 1048576) (h0 : 0 ≤ z) (hs : t.nm.size ≤ maxLen) (hn : n ≤ maxLen) (h : z < (t.nm.size : Int) + (n : Int)) :
    Calls Tryz.prog 39 #[odV t a n cap, .int .i64 z] w fun e w' => e = .returned (.int .i64 (-1)) ∧ Below w.heap.size w w' := by
  have N := new_below w (odB t a n cap 76)
  by_cases hm : (t.nm.size : Int) ≤ z
  · have HR : Hid (∀ w, _) := fun w => Rd.szRideS_no a n cap (z - (t.nm.size : Int)) w (by omega) (by omega) hn (by omega)
    have hd : decide (z - (t.nm.size : Int) < 0) = false := decide_eq_false (by omega)
    clear hn hs
    obtain ⟨i, st, s, cl, ca, pr, pa, fi⟩ := t
    simp only at *
    go_enter Tryz.func39, Tryz.ntmps39
    go_wp2_with fail
    refine (HR.out _).mono ?_
    rintro e w1 ⟨rfl, rfl⟩
    go_wp2
    go_ret
    exact ⟨rfl, N⟩
  · have hd : decide (z - (t.nm.size : Int) < 0) = true := decide_eq_true (by omega)
    unfold maxLen at hs
    obtain ⟨i, st, s, cl, ca, pr, pa, fi⟩ := t
    simp only at *
    go_enter Tryz.func39, Tryz.ntmps39
    go_wp2
    go_ret
    exact ⟨rfl, N⟩

set_option maxHeartbeats 4000000 in
theorem toOrder_val (t : Hd) (a : Option Addr) (ls : List Ri) (cap : Nat) (w : World) (hz : ls.length ≤ 1048576) (I : Rides w a ls) :
    Calls Tryz.prog 48 #[odV t a ls.length cap] w fun e w' => ∃ g, e = .returned (odV t (some ⟨g, 0, none⟩) ls.length ls.length) ∧ w.heap.size ≤ g ∧ Below w.heap.size w w' ∧ g < w'.heap.size ∧ Rides w' (some ⟨g, 0, none⟩) ls ∧ Pk.Room w' g (ls.length * 4) := by
  obtain ⟨k0, k1, k2⟩ := three_blocks w (odB t a ls.length cap 76) (.cells #[.int .i64 0, .int .i64 0, .string ByteArray.empty, .int .i64 0, .int .i64 0, .slice none 0 0, .int .i64 0, .int .i64 0, .int .i64 0] 85) (.cells #[.int .i64 t.id, .int .i64 t.st, .string t.nm, .int .i64 t.cl, .int .i64 t.ca, .slice none 0 0, .int .i64 0, .int .i64 0, .int .i64 0] 85)
  have HM0 : Hid (_) := k0
  have HM1 : Hid (_) := k1
  have HM2 : Hid (_) := k2
  clear k0 k1 k2
  go_enter Tryz.func48, Tryz.ntmps48
  go_wp2_with fail
  refine named fun W3 hW => ?_
  have L3 : Below w.heap.size w W3 := by
    rw [hW]
    (repeat' (first | apply Below.setCell | apply Below.alloc | exact Below.refl _ _)) <;> first | (simp; done) | (simp; omega)
  have M0 : W3.heap[w.heap.size]? = some (odB t a ls.length cap 76) := by rw [hW]; exact HM0.out
  have M1 : W3.heap[w.heap.size + 1]? = some (.cells #[.int .i64 0, .int .i64 0, .string ByteArray.empty, .int .i64 0, .int .i64 0, .slice none 0 0, .int .i64 0, .int .i64 0, .int .i64 0] 85) := by rw [hW]; exact HM1.out
  have M2 : W3.heap[w.heap.size + 1 + 1]? = some (.cells #[.int .i64 t.id, .int .i64 t.st, .string t.nm, .int .i64 t.cl, .int .i64 t.ca, .slice none 0 0, .int .i64 0, .int .i64 0, .int .i64 0] 85) := by rw [hW]; exact HM2.out
  clear hW HM0 HM1 HM2
  refine (Rd.toRideS_val a ls cap W3 hz (I.on L3)).mono ?_
  rintro e w5 ⟨rfl, L5, I5, hl5, R5⟩
  have n0 := kept L5 (lt_of M0) M0
  have n1 := kept L5 (lt_of M1) M1
  have n2 := kept L5 (lt_of M2) M2
  have hne : W3.heap.size ≠ w.heap.size + 1 ∧ W3.heap.size ≠ w.heap.size + 1 + 1 := by
    have := lt_of M1
    have := lt_of M2
    omega
  have HG : Hid (w.heap.size ≤ W3.heap.size) := L3.size
  have HGS : Hid (W3.heap.size < w5.heap.size) := hl5
  have HRM : Hid (Pk.Room w5 W3.heap.size (ls.length * 4)) := R5
  clear R5
  have L6 := join_below L3 L5
  generalize W3.heap.size = g at *
  clear L3 M0 M1 M2 L5 I
  have f1 : ∀ i, w5.frozen? ⟨w.heap.size + 1, i, none⟩ = false := fun i => frozen_at n1 i
  have f2 : ∀ i, w5.frozen? ⟨w.heap.size + 1 + 1, i, none⟩ = false := fun i => frozen_at n2 i
  have r0 := f1 0
  have s0 := f2 0
  have r1 := f1 1
  have s1 := f2 1
  have r2 := f1 2
  have s2 := f2 2
  have r3 := f1 3
  have s3 := f2 3
  have r4 := f1 4
  have s4 := f2 4
  have r5 := f1 5
  have s5 := f2 5
  have r6 := f1 6
  have s6 := f2 6
  have r7 := f1 7
  have s7 := f2 7
  have r8 := f1 8
  have s8 := f2 8
  have q6 : w5.cell? ⟨w.heap.size, 6, none⟩ = some (.int .i64 t.pr) := cell_at n0 6
  have q7 : w5.cell? ⟨w.heap.size, 7, none⟩ = some (.int .i64 t.pa) := cell_at n0 7
  have q8 : w5.cell? ⟨w.heap.size, 8, none⟩ = some (.int .i64 t.fi) := cell_at n0 8
  have a0 : w5.cell? ⟨w.heap.size + 1, 0, none⟩ = some (.int .i64 0) := cell_at n1 0
  have a1 : w5.cell? ⟨w.heap.size + 1, 1, none⟩ = some (.int .i64 0) := cell_at n1 1
  have a2 : w5.cell? ⟨w.heap.size + 1, 2, none⟩ = some (.string ByteArray.empty) := cell_at n1 2
  have a3 : w5.cell? ⟨w.heap.size + 1, 3, none⟩ = some (.int .i64 0) := cell_at n1 3
  have a4 : w5.cell? ⟨w.heap.size + 1, 4, none⟩ = some (.int .i64 0) := cell_at n1 4
  have a5 : w5.cell? ⟨w.heap.size + 1, 5, none⟩ = some (.slice none 0 0) := cell_at n1 5
  have a6 : w5.cell? ⟨w.heap.size + 1, 6, none⟩ = some (.int .i64 0) := cell_at n1 6
  have a7 : w5.cell? ⟨w.heap.size + 1, 7, none⟩ = some (.int .i64 0) := cell_at n1 7
  have a8 : w5.cell? ⟨w.heap.size + 1, 8, none⟩ = some (.int .i64 0) := cell_at n1 8
  have b0 : w5.cell? ⟨w.heap.size + 1 + 1, 0, none⟩ = some (.int .i64 t.id) := cell_at n2 0
  have b1 : w5.cell? ⟨w.heap.size + 1 + 1, 1, none⟩ = some (.int .i64 t.st) := cell_at n2 1
  have b2 : w5.cell? ⟨w.heap.size + 1 + 1, 2, none⟩ = some (.string t.nm) := cell_at n2 2
  have b3 : w5.cell? ⟨w.heap.size + 1 + 1, 3, none⟩ = some (.int .i64 t.cl) := cell_at n2 3
  have b4 : w5.cell? ⟨w.heap.size + 1 + 1, 4, none⟩ = some (.int .i64 t.ca) := cell_at n2 4
  have b5 : w5.cell? ⟨w.heap.size + 1 + 1, 5, none⟩ = some (.slice none 0 0) := cell_at n2 5
  have b6 : w5.cell? ⟨w.heap.size + 1 + 1, 6, none⟩ = some (.int .i64 0) := cell_at n2 6
  have b7 : w5.cell? ⟨w.heap.size + 1 + 1, 7, none⟩ = some (.int .i64 0) := cell_at n2 7
  have b8 : w5.cell? ⟨w.heap.size + 1 + 1, 8, none⟩ = some (.int .i64 0) := cell_at n2 8
  have HI : Hid (∀ W, (∀ p : Addr, p.block ≠ w.heap.size + 1 → p.block ≠ w.heap.size + 1 + 1 → W.cell? p = w5.cell? p ∧ W.frozen? p = w5.frozen? p) → W.heap.size = w5.heap.size → g < W.heap.size ∧ Rides W (some ⟨g, 0, none⟩) ls ∧ Pk.Room W g (ls.length * 4)) := by
    intro W hc hsz
    refine ⟨?_, ?_, ?_⟩
    · rw [hsz]
      exact HGS.out
    · rcases I5 with h | ⟨b, o, ha, hb, hcc⟩
      · exact Or.inl h
      · simp only [Option.some.injEq, Addr.mk.injEq] at ha
        obtain ⟨rfl, rfl, -⟩ := ha
        refine Or.inr ⟨g, 0, rfl, by omega, fun i hi => ?_⟩
        rw [(hc ⟨g, 0 + i * 4, none⟩ hne.1 hne.2).1, (hc ⟨g, 0 + i * 4 + 1, none⟩ hne.1 hne.2).1, (hc ⟨g, 0 + i * 4 + 2, none⟩ hne.1 hne.2).1, (hc ⟨g, 0 + i * 4 + 3, none⟩ hne.1 hne.2).1]
        exact hcc i hi
    · intro j hj
      rw [(hc ⟨g, j, none⟩ hne.1 hne.2).1, (hc ⟨g, j, none⟩ hne.1 hne.2).2]
      exact HRM.out j hj
  clear n0 n1 n2 f1 f2 I5 hne
  go_wp2
  refine bodyPost_ret (v := odV t (some ⟨g, 0, none⟩) ls.length ls.length) (by simp [results, Tryz.results48, go_sem, a0, a1, a2, a3, a4, a5, a6, a7, a8]) rfl ?_
  refine ⟨g, rfl, HG.out, ?_, ?_⟩
  · (repeat' (first | apply Below.setCell | exact L6)) <;> first | (simp; done) | (simp; omega)
  · refine HI.out _ ?_ ?_
    · intro p h1 h2
      refine ⟨?_, ?_⟩
      · repeat (first | rw [cell_other h1] | rw [cell_other h2])
      · repeat rw [World.frozen?_setCell]
    · simp

theorem eqOrder_same (t : Hd) (a b : Option Addr) (ls : List Ri) (c1 c2 : Nat) (w : World) (hz : ls.length ≤ 1048576) (I : Rides w a ls) (J : Rides w b ls) :
    Calls Tryz.prog 61 #[odV t a ls.length c1, odV t b ls.length c2] w fun e w' => e = .returned (.bool true) ∧ Below w.heap.size w w' := by
  have N := join_below (new_below w (odB t a ls.length c1 85)) (new_below _ (odB t b ls.length c2 85))
  have m0 := heap_old (heap_new w (odB t a ls.length c1 85)) (odB t b ls.length c2 85)
  have m1 := heap_new (w.alloc (odB t a ls.length c1 85)) (odB t b ls.length c2 85)
  have HE : Hid (∀ w, Rides w a ls → Rides w b ls → _) := fun w h1 h2 => Rd.eqRideS_same a b ls c1 c2 w hz h1 h2
  have I1 := I.on N
  have J1 := J.on N
  go_enter Tryz.func61, Tryz.ntmps61
  go_wp2_with fail
  refine named fun W3 hW => ?_
  rw [← hW] at N m0 m1 I1 J1
  have e1 : (w.alloc (odB t a ls.length c1 85)).heap.size = w.heap.size + 1 := Array.size_push ..
  rw [e1] at m1
  clear hW
  refine (HE.out _ I1 J1).mono ?_
  rintro e w1 ⟨rfl, L1⟩
  have n0 := kept L1 (lt_of m0) m0
  have n1 := kept L1 (lt_of m1) m1
  have x6 : w1.cell? ⟨w.heap.size, 6, none⟩ = some (.int .i64 t.pr) := cell_at n0 6
  have y6 : w1.cell? ⟨w.heap.size + 1, 6, none⟩ = some (.int .i64 t.pr) := cell_at n1 6
  have x7 : w1.cell? ⟨w.heap.size, 7, none⟩ = some (.int .i64 t.pa) := cell_at n0 7
  have y7 : w1.cell? ⟨w.heap.size + 1, 7, none⟩ = some (.int .i64 t.pa) := cell_at n1 7
  have x8 : w1.cell? ⟨w.heap.size, 8, none⟩ = some (.int .i64 t.fi) := cell_at n0 8
  have y8 : w1.cell? ⟨w.heap.size + 1, 8, none⟩ = some (.int .i64 t.fi) := cell_at n1 8
  have L2 := join_below N L1
  clear n0 n1 m0 m1 I1 J1 HE N L1
  go_wp2
  go_ret
  exact ⟨rfl, L2⟩

end Od
end Go.Proofs.YtehmlnojjfeheaaGreat
