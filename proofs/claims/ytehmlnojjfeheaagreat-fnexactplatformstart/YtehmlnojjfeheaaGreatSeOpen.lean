/- Holds that came in: how many there are, and what they hold. -/
import Derived.Test.YtehmlnojjfeheaaGreatSeHolds
import Derived.Deep.Slices
namespace Go.Proofs.YtehmlnojjfeheaaGreat
namespace Se
open Go.ChangeShapes Go.WideShapes Go.ChangeAt Go.RowKit
set_option linter.unusedSimpArgs false
set_option linter.unusedVariables false

theorem add_plain (b o i : Nat) : Addr.add ⟨b, o, none⟩ i = ⟨b, o + i, none⟩ := by simp [Addr.add]

/-- Numbers that an int holds. -/
abbrev WfI (x : Int) : Prop := (Lit.int .i64 x).wf = true

/-- All numbers of a hold are such. -/
structure Wf (p : Hl) : Prop where
  tr : WfI p.tr
  dy : WfI p.dy
  co : WfI p.co
  se : WfI p.se
  ba : WfI p.ba
  be : WfI p.be
  od : WfI p.od

/-- All holds of a list are so. -/
def Wfs (ps : List Hl) : Prop := ∀ p ∈ ps, Wf p

theorem szHoldS_yes (a : Option Addr) (n cap : Nat) (z : Int) (w : World) (hz : z ≤ 1048576) (h : (n : Int) ≤ z) :
    Calls Tryz.prog 15 #[.slice a n cap, .int .i64 z] w fun e w' => e = .returned (.int .i64 (z - (n : Int))) ∧ w' = w := by
  have hd : decide (z - (n : Int) < 0) = false := decide_eq_false (by omega)
  go_enter Tryz.func15, Tryz.ntmps15
  go_wp2
  go_ret
  exact ⟨rfl, rfl⟩

theorem szHoldS_no (a : Option Addr) (n cap : Nat) (z : Int) (w : World) (hz : z ≤ 1048576) (h0 : 0 ≤ z) (hn : n ≤ maxLen) (h : z < (n : Int)) :
    Calls Tryz.prog 15 #[.slice a n cap, .int .i64 z] w fun e w' => e = .returned (.int .i64 (-1)) ∧ w' = w := by
  unfold maxLen at hn
  have hd : decide (z - (n : Int) < 0) = true := decide_eq_true (by omega)
  go_enter Tryz.func15, Tryz.ntmps15
  go_wp2
  go_ret
  exact ⟨rfl, rfl⟩

set_option maxRecDepth 100000 in
theorem hold_cells {H : Type} {enc : TypeId × Value → H} {W : World} {base : Nat} {spare : Nat → Bool} {held : Bool} {fuel : Nat} {cs : List Value} {x : DataW H × List MemPlace} (h : DataW.trod enc Tryz.prog W base spare held fuel 98 cs = some x) :
    ∃ p : Hl, cs = [.int .i64 p.tr, .int .i64 p.dy, .int .i64 p.co, .int .i64 p.se, .int .i64 p.ba, .int .i64 p.be, .int .i64 p.od] ∧ Wf p := by
  obtain ⟨xs, n, -, -, hl, hxl, hf⟩ := DataW.trod_struct Tryz.underlying98 h
  have hl4 : cs.length = 7 := hl.trans (by kernel_rfl)
  have c1 : Tryz.prog.cellsOf 3 = 1 := by kernel_rfl
  match xs, hxl, cs, hl4 with
  | [y0, y1, y2, y3, y4, y5, y6], _, [v0, v1, v2, v3, v4, v5, v6], _ =>
    have h0 := hf 0 _ rfl
    have h1 := hf 1 _ rfl
    have h2 := hf 2 _ rfl
    have h3 := hf 3 _ rfl
    have h4 := hf 4 _ rfl
    have h5 := hf 5 _ rfl
    have h6 := hf 6 _ rfl
    simp [c1] at h0 h1 h2 h3 h4 h5 h6
    obtain ⟨a0, e0, -, w0⟩ := DataW.trod_int Tryz.underlying3 h0
    obtain ⟨a1, e1, -, w1⟩ := DataW.trod_int Tryz.underlying3 h1
    obtain ⟨a2, e2, -, w2⟩ := DataW.trod_int Tryz.underlying3 h2
    obtain ⟨a3, e3, -, w3⟩ := DataW.trod_int Tryz.underlying3 h3
    obtain ⟨a4, e4, -, w4⟩ := DataW.trod_int Tryz.underlying3 h4
    obtain ⟨a5, e5, -, w5⟩ := DataW.trod_int Tryz.underlying3 h5
    obtain ⟨a6, e6, -, w6⟩ := DataW.trod_int Tryz.underlying3 h6
    simp at e0 e1 e2 e3 e4 e5 e6
    exact ⟨⟨a0, a1, a2, a3, a4, a5, a6⟩, by rw [e0, e1, e2, e3, e4, e5, e6], ⟨w0, w1, w2, w3, w4, w5, w6⟩⟩

theorem holds_open {H : Type} {enc : TypeId × Value → H} {W : World} {base : Nat} {spare : Nat → Bool} {held : Bool} {fuel : Nat} {cs : List Value} {x : DataW H × List MemPlace} (h : DataW.trod enc Tryz.prog W base spare held fuel 24 cs = some x) :
    ∃ (a : Option Addr) (cap : Nat) (ps : List Hl), cs = [.slice a ps.length cap] ∧ ps.length ≤ maxLen ∧ Holds W a ps ∧ Wfs ps := by
  rcases Go.Deep.open_slice Tryz.underlying24 h with ⟨h0, -⟩ | ⟨a, len, cap, m, n, D, Pl, rfl, hb, hl, hm, hmm, -, hx⟩
  · exact ⟨none, 0, [], h0, by simp, Or.inl rfl, by intro p hp; simp at hp⟩
  have hlm : len ≤ m := by rw [hmm]; split <;> omega
  have c4 : Tryz.prog.cellsOf 98 = 7 := by kernel_rfl
  have each : ∀ i, i < len → ∃ p : Hl, (W.cell? (a.add (i * 7)) = some (.int .i64 p.tr) ∧ W.cell? (a.add (i * 7 + 1)) = some (.int .i64 p.dy) ∧ W.cell? (a.add (i * 7 + 2)) = some (.int .i64 p.co) ∧ W.cell? (a.add (i * 7 + 3)) = some (.int .i64 p.se) ∧ W.cell? (a.add (i * 7 + 4)) = some (.int .i64 p.ba) ∧ W.cell? (a.add (i * 7 + 5)) = some (.int .i64 p.be) ∧ W.cell? (a.add (i * 7 + 6)) = some (.int .i64 p.od)) ∧ Wf p := by
    intro i hi
    obtain ⟨cs', h1, h2⟩ := hx i (by omega)
    rw [c4] at h1
    obtain ⟨-, hlen, hcell⟩ := World.cells?_some h1
    obtain ⟨p, rfl, hwf⟩ := hold_cells h2
    refine ⟨p, ⟨?_, ?_, ?_, ?_, ?_, ?_, ?_⟩, hwf⟩
    · have := hcell 0 (by simp)
      rw [Go.Deep.add_add] at this
      simpa using this
    · have := hcell 1 (by simp)
      rw [Go.Deep.add_add] at this
      simpa using this
    · have := hcell 2 (by simp)
      rw [Go.Deep.add_add] at this
      simpa using this
    · have := hcell 3 (by simp)
      rw [Go.Deep.add_add] at this
      simpa using this
    · have := hcell 4 (by simp)
      rw [Go.Deep.add_add] at this
      simpa using this
    · have := hcell 5 (by simp)
      rw [Go.Deep.add_add] at this
      simpa using this
    · have := hcell 6 (by simp)
      rw [Go.Deep.add_add] at this
      simpa using this
  haveI : Inhabited Hl := ⟨⟨0, 0, 0, 0, 0, 0, 0⟩⟩
  obtain ⟨q, hq⟩ := Go.Deep.choose_lt each
  refine ⟨some a, cap, (List.range len).map q, by simp, by simp; omega, ?_, ?_⟩
  rotate_left
  · intro p hp
    simp at hp
    obtain ⟨i, hi, rfl⟩ := hp
    exact (hq i hi).2
  by_cases h0 : len = 0
  · subst h0; exact Or.inl rfl
  · obtain ⟨b, o, spot⟩ := a
    have hs := World.cell?_spot (hq 0 (by omega)).1.1
    simp [Addr.add] at hs
    subst hs
    refine Or.inr ⟨b, o, rfl, ?_, fun i hi => ?_⟩
    · have h1 := (hq 0 (by omega)).1.1
      apply Nat.lt_of_not_le
      intro hle
      unfold World.cell? at h1
      simp [Addr.add, Array.getElem?_eq_none hle] at h1
    · simp at hi
      have := (hq i hi).1
      simp [add_plain] at this
      simpa [Nat.add_assoc] using this

set_option maxRecDepth 100000 in
theorem hold_open {H : Type} {enc : TypeId × Value → H} {W : World} {base b0 : Nat} {r : Reach} {spare : Nat → Bool} {held : Bool} {v : Value} {d : DataW H} {p : List MemPlace}
    (hv : Value.okWide Tryz.prog W r b0 98 v) (h : DataW.Trod enc Tryz.prog W base spare held 98 v d p) :
    ∃ (t : Hl), v = lgV t ∧ Wf t := by
  obtain ⟨cs, rfl, hsz⟩ := okWide_struct Tryz.underlying98 hv
  obtain ⟨fuel, hf⟩ := h
  obtain ⟨t, e, hw⟩ := hold_cells hf
  refine ⟨t, ?_, hw⟩
  obtain ⟨cs⟩ := cs
  simp [Value.cells] at e
  subst e
  rfl

end Se
end Go.Proofs.YtehmlnojjfeheaaGreat
