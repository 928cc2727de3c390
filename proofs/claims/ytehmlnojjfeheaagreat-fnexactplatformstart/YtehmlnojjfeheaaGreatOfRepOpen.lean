/- Replies that came in: how many there are, and what they hold. -/
import Derived.Test.YtehmlnojjfeheaaGreatOfReps
import Derived.Deep.Slices
namespace Go.Proofs.YtehmlnojjfeheaaGreat
namespace Rp
open Go.ChangeShapes Go.WideShapes Go.ChangeAt Go.RowKit
set_option linter.unusedSimpArgs false
set_option linter.unusedVariables false

theorem add_plain (b o i : Nat) : Addr.add ⟨b, o, none⟩ i = ⟨b, o + i, none⟩ := by simp [Addr.add]

/-- Numbers that an int holds. -/
abbrev WfI (x : Int) : Prop := (Lit.int .i64 x).wf = true

/-- All numbers of a reply are such. -/
structure Wf (p : Rr) : Prop where
  rq : WfI p.rq
  sa : WfI p.sa
  od : WfI p.od
  am : WfI p.am

/-- All replies of a list are so. -/
def Wfs (ps : List Rr) : Prop := ∀ p ∈ ps, Wf p

theorem szReplyS_yes (a : Option Addr) (n cap : Nat) (z : Int) (w : World) (hz : z ≤ 1048576) (h : (n : Int) ≤ z) :
    Calls Tryz.prog 17 #[.slice a n cap, .int .i64 z] w fun e w' => e = .returned (.int .i64 (z - (n : Int))) ∧ w' = w := by
  have hd : decide (z - (n : Int) < 0) = false := decide_eq_false (by omega)
  go_enter Tryz.func17, Tryz.ntmps17
  go_wp2
  go_ret
  exact ⟨rfl, rfl⟩

theorem szReplyS_no (a : Option Addr) (n cap : Nat) (z : Int) (w : World) (hz : z ≤ 1048576) (h0 : 0 ≤ z) (hn : n ≤ maxLen) (h : z < (n : Int)) :
    Calls Tryz.prog 17 #[.slice a n cap, .int .i64 z] w fun e w' => e = .returned (.int .i64 (-1)) ∧ w' = w := by
  unfold maxLen at hn
  have hd : decide (z - (n : Int) < 0) = true := decide_eq_true (by omega)
  go_enter Tryz.func17, Tryz.ntmps17
  go_wp2
  go_ret
  exact ⟨rfl, rfl⟩

set_option maxRecDepth 100000 in
theorem reply_cells {H : Type} {enc : TypeId × Value → H} {W : World} {base : Nat} {spare : Nat → Bool} {held : Bool} {fuel : Nat} {cs : List Value} {x : DataW H × List MemPlace} (h : DataW.trod enc Tryz.prog W base spare held fuel 101 cs = some x) :
    ∃ p : Rr, cs = [.int .i64 p.rq, .int .i64 p.sa, .int .i64 p.od, .int .i64 p.am] ∧ Wf p := by
  obtain ⟨xs, n, -, -, hl, hxl, hf⟩ := DataW.trod_struct Tryz.underlying101 h
  have hl4 : cs.length = 4 := hl.trans (by kernel_rfl)
  have c1 : Tryz.prog.cellsOf 3 = 1 := by kernel_rfl
  match xs, hxl, cs, hl4 with
  | [y0, y1, y2, y3], _, [v0, v1, v2, v3], _ =>
    have h0 := hf 0 _ rfl
    have h1 := hf 1 _ rfl
    have h2 := hf 2 _ rfl
    have h3 := hf 3 _ rfl
    simp [c1] at h0 h1 h2 h3
    obtain ⟨a0, e0, -, w0⟩ := DataW.trod_int Tryz.underlying3 h0
    obtain ⟨a1, e1, -, w1⟩ := DataW.trod_int Tryz.underlying3 h1
    obtain ⟨a2, e2, -, w2⟩ := DataW.trod_int Tryz.underlying3 h2
    obtain ⟨a3, e3, -, w3⟩ := DataW.trod_int Tryz.underlying3 h3
    simp at e0 e1 e2 e3
    exact ⟨⟨a0, a1, a2, a3⟩, by rw [e0, e1, e2, e3], ⟨w0, w1, w2, w3⟩⟩

theorem replies_open {H : Type} {enc : TypeId × Value → H} {W : World} {base : Nat} {spare : Nat → Bool} {held : Bool} {fuel : Nat} {cs : List Value} {x : DataW H × List MemPlace} (h : DataW.trod enc Tryz.prog W base spare held fuel 26 cs = some x) :
    ∃ (a : Option Addr) (cap : Nat) (ps : List Rr), cs = [.slice a ps.length cap] ∧ ps.length ≤ maxLen ∧ Replys W a ps ∧ Wfs ps := by
  rcases Go.Deep.open_slice Tryz.underlying26 h with ⟨h0, -⟩ | ⟨a, len, cap, m, n, D, Pl, rfl, hb, hl, hm, hmm, -, hx⟩
  · exact ⟨none, 0, [], h0, by simp, Or.inl rfl, by intro p hp; simp at hp⟩
  have hlm : len ≤ m := by rw [hmm]; split <;> omega
  have c4 : Tryz.prog.cellsOf 101 = 4 := by kernel_rfl
  have each : ∀ i, i < len → ∃ p : Rr, (W.cell? (a.add (i * 4)) = some (.int .i64 p.rq) ∧ W.cell? (a.add (i * 4 + 1)) = some (.int .i64 p.sa) ∧ W.cell? (a.add (i * 4 + 2)) = some (.int .i64 p.od) ∧ W.cell? (a.add (i * 4 + 3)) = some (.int .i64 p.am)) ∧ Wf p := by
    intro i hi
    obtain ⟨cs', h1, h2⟩ := hx i (by omega)
    rw [c4] at h1
    obtain ⟨-, hlen, hcell⟩ := World.cells?_some h1
    obtain ⟨p, rfl, hwf⟩ := reply_cells h2
    refine ⟨p, ⟨?_, ?_, ?_, ?_⟩, hwf⟩
    · have := hcell 0 (by simp)
      rw [Go.Deep.add_add] at this
      simpa using this
    · have := hcell 1 (by simp)
      rw [Go.Deep.add_add] at this
      simpa using this
    · have := hcell 2 (by simp)
      rw [Go.Deep.add_add] at this
      simpa using this
    · have := hcell 3 (by simp)
      rw [Go.Deep.add_add] at this
      simpa using this
  haveI : Inhabited Rr := ⟨⟨0, 0, 0, 0⟩⟩
  obtain ⟨q, hq⟩ := Go.Deep.choose_lt each
  refine ⟨some a, cap, (List.range len).map q, by simp, by simp; omega, ?_, ?_⟩
  rotate_left
  · intro p hp
    simp at hp
    obtain ⟨i, hi, rfl⟩ := hp
    exact (hq i hi).2
  by_cases h0 : len = 0
  · subst h0; exact Or.inl rfl
  · obtain ⟨b, o, spot⟩ := a
    have hs := World.cell?_spot (hq 0 (by omega)).1.1
    simp [Addr.add] at hs
    subst hs
    refine Or.inr ⟨b, o, rfl, ?_, fun i hi => ?_⟩
    · have h1 := (hq 0 (by omega)).1.1
      apply Nat.lt_of_not_le
      intro hle
      unfold World.cell? at h1
      simp [Addr.add, Array.getElem?_eq_none hle] at h1
    · simp at hi
      have := (hq i hi).1
      simp [add_plain] at this
      simpa [Nat.add_assoc] using this

end Rp
end Go.Proofs.YtehmlnojjfeheaaGreat
