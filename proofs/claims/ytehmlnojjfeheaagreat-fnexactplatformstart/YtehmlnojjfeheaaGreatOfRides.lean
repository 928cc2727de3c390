/- Rides that came in: how many there are, and what they hold. -/
import Derived.Test.YtehmlnojjfeheaaGreatTnRides
import Derived.Deep.Slices
namespace Go.Proofs.YtehmlnojjfeheaaGreat
namespace Rd
open Go.ChangeShapes Go.WideShapes Go.ChangeAt Go.RowKit
set_option linter.unusedSimpArgs false
set_option linter.unusedVariables false

theorem add_plain (b o i : Nat) : Addr.add ⟨b, o, none⟩ i = ⟨b, o + i, none⟩ := by simp [Addr.add]

theorem szRideS_yes (a : Option Addr) (n cap : Nat) (z : Int) (w : World) (hz : z ≤ 1048576) (h : (n : Int) ≤ z) :
    Calls Tryz.prog 72 #[.slice a n cap, .int .i64 z] w fun e w' => e = .returned (.int .i64 (z - (n : Int))) ∧ w' = w := by
  have hd : decide (z - (n : Int) < 0) = false := decide_eq_false (by omega)
  go_enter Tryz.func72, Tryz.ntmps72
  go_wp2
  go_ret
  exact ⟨rfl, rfl⟩

theorem szRideS_no (a : Option Addr) (n cap : Nat) (z : Int) (w : World) (hz : z ≤ 1048576) (h0 : 0 ≤ z) (hn : n ≤ maxLen) (h : z < (n : Int)) :
    Calls Tryz.prog 72 #[.slice a n cap, .int .i64 z] w fun e w' => e = .returned (.int .i64 (-1)) ∧ w' = w := by
  unfold maxLen at hn
  have hd : decide (z - (n : Int) < 0) = true := decide_eq_true (by omega)
  go_enter Tryz.func72, Tryz.ntmps72
  go_wp2
  go_ret
  exact ⟨rfl, rfl⟩

set_option maxRecDepth 100000 in
theorem ride_cells {H : Type} {enc : TypeId × Value → H} {W : World} {base : Nat} {spare : Nat → Bool} {held : Bool} {fuel : Nat} {cs : List Value} {x : DataW H × List MemPlace} (h : DataW.trod enc Tryz.prog W base spare held fuel 146 cs = some x) :
    ∃ p : Ri, cs = [.int .i64 p.tr, .int .i64 p.dy, .int .i64 p.fr, .int .i64 p.to] := by
  obtain ⟨xs, n, -, -, hl, hxl, hf⟩ := DataW.trod_struct Tryz.underlying146 h
  have hl4 : cs.length = 4 := hl.trans (by kernel_rfl)
  have c1 : Tryz.prog.cellsOf 3 = 1 := by kernel_rfl
  match xs, hxl, cs, hl4 with
  | [y0, y1, y2, y3], _, [v0, v1, v2, v3], _ =>
    have h0 := hf 0 _ rfl
    have h1 := hf 1 _ rfl
    have h2 := hf 2 _ rfl
    have h3 := hf 3 _ rfl
    simp [c1] at h0 h1 h2 h3
    obtain ⟨a0, e0, -, -⟩ := DataW.trod_int Tryz.underlying3 h0
    obtain ⟨a1, e1, -, -⟩ := DataW.trod_int Tryz.underlying3 h1
    obtain ⟨a2, e2, -, -⟩ := DataW.trod_int Tryz.underlying3 h2
    obtain ⟨a3, e3, -, -⟩ := DataW.trod_int Tryz.underlying3 h3
    simp at e0 e1 e2 e3
    exact ⟨⟨a0, a1, a2, a3⟩, by rw [e0, e1, e2, e3]⟩

theorem rides_open {H : Type} {enc : TypeId × Value → H} {W : World} {base : Nat} {spare : Nat → Bool} {held : Bool} {fuel : Nat} {cs : List Value} {x : DataW H × List MemPlace} (h : DataW.trod enc Tryz.prog W base spare held fuel 74 cs = some x) :
    ∃ (a : Option Addr) (cap : Nat) (ps : List Ri), cs = [.slice a ps.length cap] ∧ ps.length ≤ maxLen ∧ Rides W a ps := by
  rcases Go.Deep.open_slice Tryz.underlying74 h with ⟨h0, -⟩ | ⟨a, len, cap, m, n, D, Pl, rfl, hb, hl, hm, hmm, -, hx⟩
  · exact ⟨none, 0, [], h0, by simp, Or.inl rfl⟩
  have hlm : len ≤ m := by rw [hmm]; split <;> omega
  have c4 : Tryz.prog.cellsOf 146 = 4 := by kernel_rfl
  have each : ∀ i, i < len → ∃ p : Ri, W.cell? (a.add (i * 4)) = some (.int .i64 p.tr) ∧ W.cell? (a.add (i * 4 + 1)) = some (.int .i64 p.dy) ∧ W.cell? (a.add (i * 4 + 2)) = some (.int .i64 p.fr) ∧ W.cell? (a.add (i * 4 + 3)) = some (.int .i64 p.to) := by
    intro i hi
    obtain ⟨cs', h1, h2⟩ := hx i (by omega)
    rw [c4] at h1
    obtain ⟨-, hlen, hcell⟩ := World.cells?_some h1
    obtain ⟨p, rfl⟩ := ride_cells h2
    refine ⟨p, ?_, ?_, ?_, ?_⟩
    · have := hcell 0 (by omega)
      rw [Go.Deep.add_add] at this
      simpa using this
    · have := hcell 1 (by omega)
      rw [Go.Deep.add_add] at this
      simpa using this
    · have := hcell 2 (by omega)
      rw [Go.Deep.add_add] at this
      simpa using this
    · have := hcell 3 (by omega)
      rw [Go.Deep.add_add] at this
      simpa using this
  haveI : Inhabited Ri := ⟨⟨0, 0, 0, 0⟩⟩
  obtain ⟨q, hq⟩ := Go.Deep.choose_lt each
  refine ⟨some a, cap, (List.range len).map q, by simp, by simp; omega, ?_⟩
  by_cases h0 : len = 0
  · subst h0; exact Or.inl rfl
  · obtain ⟨b, o, spot⟩ := a
    have hs := World.cell?_spot (hq 0 (by omega)).1
    simp [Addr.add] at hs
    subst hs
    refine Or.inr ⟨b, o, rfl, ?_, fun i hi => ?_⟩
    · have h1 := (hq 0 (by omega)).1
      apply Nat.lt_of_not_le
      intro hle
      unfold World.cell? at h1
      simp [Addr.add, Array.getElem?_eq_none hle] at h1
    · simp at hi
      have := hq i hi
      simp [add_plain] at this
      simpa [Nat.add_assoc] using this

end Rd
end Go.Proofs.YtehmlnojjfeheaaGreat
