/- Contracts of the laws' own helpers over wants: their size, a copy, two of them held against each other; a want that came in. -/
import Derived.Test.YtdfejmaekdgcdasDoorLgWant
import Derived.Test.YtdfejmaekdgcdasDoorOfRides
import Derived.Test.YtdfejmaekdgcdasDoorTkTic
namespace Go.Proofs.YtdfejmaekdgcdasDoor
namespace Wn
open Go.ChangeShapes Go.WideShapes Go.ChangeAt Go.RowKit Go.Joins
open Pk (new_below join_below cell_at heap_new frozen_at lt_of kept heap_old)
open Rd (Ri Rides szRideS_yes szRideS_no rides_open toRideS_val eqRideS_same)
open Tk (named three_blocks cell_other)
set_option linter.unusedSimpArgs false
set_option linter.unusedVariables false

theorem szWant_yes (t : Wh) (s : ByteArray) (a : Option Addr) (n cap : Nat) (w : World) (h : s.size + n ≤ 1048576) :
    Calls Tryd.prog 5 #[wnV t s a n cap, .int .i64 1048576] w fun e w' => e = .returned (.int .i64 (1048576 - (s.size : Int) - (n : Int))) ∧ Below w.heap.size w w' := by
  have hd : decide (1048576 - (s.size : Int) < 0) = false := decide_eq_false (by omega)
  have hd2 : decide (1048576 - (s.size : Int) - (n : Int) < 0) = false := decide_eq_false (by omega)
  have N := new_below w (wnB t s a n cap 24)
  go_enter Tryd.func5, Tryd.ntmps5
  go_wp2_with fail
  refine (szRideS_yes a n cap (1048576 - (s.size : Int)) _ (by omega) (by omega)).mono ?_
  rintro e w1 ⟨rfl, rfl⟩
  go_wp2
  go_ret
  exact ⟨rfl, N⟩

theorem szWant_no (t : Wh) (s : ByteArray) (a : Option Addr) (n cap : Nat) (w : World) (hs : s.size ≤ maxLen) (hn : n ≤ maxLen) (h : ¬ s.size + n ≤ 1048576) :
    Calls Tryd.prog 5 #[wnV t s a n cap, .int .i64 1048576] w fun e w' => e = .returned (.int .i64 (-1)) ∧ Below w.heap.size w w' := by
  have HH : Hid (s.size ≤ maxLen ∧ n ≤ maxLen) := ⟨hs, hn⟩
  unfold maxLen at hs hn
  have N := new_below w (wnB t s a n cap 24)
  by_cases h1 : s.size ≤ 1048576
  · have hd : decide (1048576 - (s.size : Int) < 0) = false := decide_eq_false (by omega)
    go_enter Tryd.func5, Tryd.ntmps5
    go_wp2_with fail
    refine (szRideS_no a n cap (1048576 - (s.size : Int)) _ (by omega) (by omega) HH.out.2 (by omega)).mono ?_
    rintro e w1 ⟨rfl, rfl⟩
    go_wp2
    go_ret
    exact ⟨rfl, N⟩
  · have hd : decide (1048576 - (s.size : Int) < 0) = true := decide_eq_true (by omega)
    clear h h1
    go_enter Tryd.func5, Tryd.ntmps5
    go_wp2
    go_ret
    exact ⟨rfl, N⟩

set_option maxHeartbeats 4000000 in
theorem toWant_val (t : Wh) (s : ByteArray) (a : Option Addr) (ls : List Ri) (cap : Nat) (w : World) (hz : ls.length ≤ 1048576) (I : Rides w a ls) :
    Calls Tryd.prog 7 #[wnV t s a ls.length cap] w fun e w' => ∃ g, e = .returned (wnV t s (some ⟨g, 0, none⟩) ls.length ls.length) ∧ Below w.heap.size w w' ∧ Rides w' (some ⟨g, 0, none⟩) ls := by
  obtain ⟨k0, k1, k2⟩ := three_blocks w (wnB t s a ls.length cap 24) (.cells #[.int .i64 0, .int .i64 0, .int .i64 0, .string ⟨#[]⟩, .int .i64 0, .int .i64 0, .slice none 0 0] 30) (.cells #[.int .i64 t.kd, .int .i64 t.rq, .int .i64 t.od, .string s, .int .i64 t.cl, .int .i64 t.cd, .slice none 0 0] 30)
  have HM1 : Hid (_) := k1
  have HM2 : Hid (_) := k2
  clear k0 k1 k2
  go_enter Tryd.func7, Tryd.ntmps7
  go_wp2_with fail
  refine named fun W3 hW => ?_
  have L3 : Below w.heap.size w W3 := by
    rw [hW]
    (repeat' (first | apply Below.setCell | apply Below.alloc | exact Below.refl _ _)) <;> first | (simp; done) | (simp; omega)
  have M1 : W3.heap[w.heap.size + 1]? = some (.cells #[.int .i64 0, .int .i64 0, .int .i64 0, .string ⟨#[]⟩, .int .i64 0, .int .i64 0, .slice none 0 0] 30) := by rw [hW]; exact HM1.out
  have M2 : W3.heap[w.heap.size + 1 + 1]? = some (.cells #[.int .i64 t.kd, .int .i64 t.rq, .int .i64 t.od, .string s, .int .i64 t.cl, .int .i64 t.cd, .slice none 0 0] 30) := by rw [hW]; exact HM2.out
  clear hW HM1 HM2
  refine (toRideS_val a ls cap W3 hz (I.on L3)).mono ?_
  rintro e w5 ⟨rfl, L5, I5⟩
  have n1 := kept L5 (lt_of M1) M1
  have n2 := kept L5 (lt_of M2) M2
  have hne : W3.heap.size ≠ w.heap.size + 1 ∧ W3.heap.size ≠ w.heap.size + 1 + 1 := by
    have := lt_of M1
    have := lt_of M2
    omega
  have L6 := join_below L3 L5
  generalize W3.heap.size = g at *
  clear L3 M1 M2 L5 I
  have f1 : ∀ i, w5.frozen? ⟨w.heap.size + 1, i, none⟩ = false := fun i => frozen_at n1 i
  have f2 : w5.frozen? ⟨w.heap.size + 1 + 1, 6, none⟩ = false := frozen_at n2 6
  have r0 := f1 0
  have r1 := f1 1
  have r2 := f1 2
  have r3 := f1 3
  have r4 := f1 4
  have r5 := f1 5
  have r6 := f1 6
  have a0 : w5.cell? ⟨w.heap.size + 1, 0, none⟩ = some (.int .i64 0) := cell_at n1 0
  have a1 : w5.cell? ⟨w.heap.size + 1, 1, none⟩ = some (.int .i64 0) := cell_at n1 1
  have a2 : w5.cell? ⟨w.heap.size + 1, 2, none⟩ = some (.int .i64 0) := cell_at n1 2
  have a3 : w5.cell? ⟨w.heap.size + 1, 3, none⟩ = some (.string ⟨#[]⟩) := cell_at n1 3
  have a4 : w5.cell? ⟨w.heap.size + 1, 4, none⟩ = some (.int .i64 0) := cell_at n1 4
  have a5 : w5.cell? ⟨w.heap.size + 1, 5, none⟩ = some (.int .i64 0) := cell_at n1 5
  have a6 : w5.cell? ⟨w.heap.size + 1, 6, none⟩ = some (.slice none 0 0) := cell_at n1 6
  have b0 : w5.cell? ⟨w.heap.size + 1 + 1, 0, none⟩ = some (.int .i64 t.kd) := cell_at n2 0
  have b1 : w5.cell? ⟨w.heap.size + 1 + 1, 1, none⟩ = some (.int .i64 t.rq) := cell_at n2 1
  have b2 : w5.cell? ⟨w.heap.size + 1 + 1, 2, none⟩ = some (.int .i64 t.od) := cell_at n2 2
  have b3 : w5.cell? ⟨w.heap.size + 1 + 1, 3, none⟩ = some (.string s) := cell_at n2 3
  have b4 : w5.cell? ⟨w.heap.size + 1 + 1, 4, none⟩ = some (.int .i64 t.cl) := cell_at n2 4
  have b5 : w5.cell? ⟨w.heap.size + 1 + 1, 5, none⟩ = some (.int .i64 t.cd) := cell_at n2 5
  have b6 : w5.cell? ⟨w.heap.size + 1 + 1, 6, none⟩ = some (.slice none 0 0) := cell_at n2 6
  have HI : Hid (∀ W, (∀ p : Addr, p.block ≠ w.heap.size + 1 → p.block ≠ w.heap.size + 1 + 1 → W.cell? p = w5.cell? p) → W.heap.size = w5.heap.size → Rides W (some ⟨g, 0, none⟩) ls) := by
    intro W hc hsz
    rcases I5 with h | ⟨b, o, ha, hb, hcc⟩
    · exact Or.inl h
    · simp only [Option.some.injEq, Addr.mk.injEq] at ha
      obtain ⟨rfl, rfl, -⟩ := ha
      refine Or.inr ⟨g, 0, rfl, by omega, fun i hi => ?_⟩
      rw [hc ⟨g, 0 + i * 4, none⟩ hne.1 hne.2, hc ⟨g, 0 + i * 4 + 1, none⟩ hne.1 hne.2, hc ⟨g, 0 + i * 4 + 2, none⟩ hne.1 hne.2, hc ⟨g, 0 + i * 4 + 3, none⟩ hne.1 hne.2]
      exact hcc i hi
  clear n1 n2 f1 I5 hne
  go_wp2
  refine bodyPost_ret (v := wnV t s (some ⟨g, 0, none⟩) ls.length ls.length) (by simp [results, Tryd.results7, go_sem, a0, a1, a2, a3, a4, a5, a6]) rfl ?_
  refine ⟨g, rfl, ?_, ?_⟩
  · (repeat' (first | apply Below.setCell | exact L6)) <;> first | (simp; done) | (simp; omega)
  · refine HI.out _ ?_ ?_
    · intro p h1 h2
      repeat (first | rw [cell_other h1] | rw [cell_other h2])
    · simp

theorem eqWant_same (t : Wh) (s : ByteArray) (a b : Option Addr) (ls : List Ri) (c1 c2 : Nat) (w : World) (hz : ls.length ≤ 1048576) (I : Rides w a ls) (J : Rides w b ls) :
    Calls Tryd.prog 9 #[wnV t s a ls.length c1, wnV t s b ls.length c2] w fun e w' => e = .returned (.bool true) ∧ Below w.heap.size w w' := by
  have N := join_below (new_below w (wnB t s a ls.length c1 30)) (new_below _ (wnB t s b ls.length c2 30))
  go_enter Tryd.func9, Tryd.ntmps9
  go_wp2_with fail
  refine (eqRideS_same a b ls c1 c2 _ hz (I.on N) (J.on N)).mono ?_
  rintro e w1 ⟨rfl, L1⟩
  go_wp2
  go_ret
  exact ⟨rfl, join_below N L1⟩

set_option maxRecDepth 100000 in
theorem wn_open {H : Type} {enc : TypeId × Value → H} {W : World} {base b0 : Nat} {r : Reach} {spare : Nat → Bool} {held : Bool} {v : Value} {d : DataW H} {p : List MemPlace}
    (hv : Value.okWide Tryd.prog W r b0 24 v) (h : DataW.Trod enc Tryd.prog W base spare held 24 v d p) :
    ∃ (t : Wh) (s : ByteArray) (a : Option Addr) (cap : Nat) (ls : List Ri), v = wnV t s a ls.length cap ∧ s.size ≤ maxLen ∧ Rides W a ls ∧ ls.length ≤ maxLen := by
  obtain ⟨cs, rfl, hsz⟩ := okWide_struct Tryd.underlying24 hv
  obtain ⟨fuel, hf⟩ := h
  obtain ⟨xs, n, -, -, hl, hxl, hf⟩ := DataW.trod_struct Tryd.underlying24 hf
  have hl7 : cs.toList.length = 7 := by rw [Array.length_toList]; exact hsz.trans (by kernel_rfl)
  have c1 : Tryd.prog.cellsOf 3 = 1 := by kernel_rfl
  have c2 : Tryd.prog.cellsOf 9 = 1 := by kernel_rfl
  have c3 : Tryd.prog.cellsOf 22 = 1 := by kernel_rfl
  obtain ⟨cs⟩ := cs
  match xs, hxl, cs, hl7 with
  | [y0, y1, y2, y3, y4, y5, y6], _, [v0, v1, v2, v3, v4, v5, v6], _ =>
    have h0 := hf 0 _ rfl
    have h1 := hf 1 _ rfl
    have h2 := hf 2 _ rfl
    have h3 := hf 3 _ rfl
    have h4 := hf 4 _ rfl
    have h5 := hf 5 _ rfl
    have h6 := hf 6 _ rfl
    simp [c1, c2, c3, Value.cells] at h0 h1 h2 h3 h4 h5 h6
    obtain ⟨a0, e0, -, -⟩ := DataW.trod_int Tryd.underlying3 h0
    obtain ⟨a1, e1, -, -⟩ := DataW.trod_int Tryd.underlying3 h1
    obtain ⟨a2, e2, -, -⟩ := DataW.trod_int Tryd.underlying3 h2
    obtain ⟨a3, e3, -, w1⟩ := DataW.trod_string Tryd.underlying9 h3
    obtain ⟨a4, e4, -, -⟩ := DataW.trod_int Tryd.underlying3 h4
    obtain ⟨a5, e5, -, -⟩ := DataW.trod_int Tryd.underlying3 h5
    obtain ⟨a6, cap, ls, e6, hm, I⟩ := rides_open h6
    simp at e0 e1 e2 e3 e4 e5 e6
    subst e0 e1 e2 e3 e4 e5 e6
    exact ⟨⟨a0, a1, a2, a4, a5⟩, a3, a6, cap, ls, rfl, w1, I, hm⟩

end Wn
end Go.Proofs.YtdfejmaekdgcdasDoor
