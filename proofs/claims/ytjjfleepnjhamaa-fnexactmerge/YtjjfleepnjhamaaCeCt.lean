/- Answers that are lists of controls in memory of their own. -/
import Derived.Test.YtjjfleepnjhamaaCeCp
namespace Go.Proofs.Ytjjfleepnjhamaa
namespace Hn
open Go.ChangeShapes Go.WideShapes Go.ChangeAt Go.RowKit Go.Joins
open Pk (new_below join_below cell_at heap_new frozen_at lt_of kept heap_old Drawn info_of Room own_form own_below)
set_option linter.unusedSimpArgs false
set_option linter.unusedVariables false

/-- The list lies in the block g, from lo on, which is its own. -/
structure COwn (lo : Nat) (w : World) (a : Option Addr) (R : List Ct) (g : Nat) : Prop where
  lo : lo ≤ g
  pl : R.length = 0 ∨ (a = some ⟨g, 0, none⟩ ∧ g < w.heap.size ∧ Room w g (R.length * 6))

theorem own_cown {lo e : Nat} {w : World} {v : Value} {R : List Ct} (h : w.ownsRow lo e 6 v R.length (ccells R)) : ∃ a cap g, v = .slice a R.length cap ∧ Controls w a R ∧ COwn lo w a R g := by
  obtain ⟨a, cap, rfl, I⟩ := own_ctls h
  rcases Nat.eq_zero_or_pos R.length with h0 | h0
  · exact ⟨a, cap, lo, rfl, I, Nat.le_refl _, Or.inl h0⟩
  · obtain ⟨g, c, hv, hb, hg, hr⟩ := own_room h h0
    simp only [Value.slice.injEq, true_and] at hv
    exact ⟨a, cap, g, rfl, I, hb, Or.inr ⟨hv.1, hg, hr⟩⟩

theorem COwn.on {lo : Nat} {w w1 : World} {a : Option Addr} {R : List Ct} {g : Nat} (h : COwn lo w a R g) (L : Below w.heap.size w w1) : COwn lo w1 a R g :=
  ⟨h.lo, h.pl.imp_right fun ⟨h1, h2, h3⟩ => ⟨h1, Nat.lt_of_lt_of_le h2 L.size, h3.on L h2⟩⟩

theorem COwn.brd {lo lo' hi : Nat} {w w1 : World} {a : Option Addr} {R : List Ct} {g : Nat} (h : COwn lo' w a R g) (L : Brd lo hi w w1) (hh : hi ≤ lo') : COwn lo' w1 a R g :=
  ⟨h.lo, h.pl.imp_right fun ⟨h1, h2, h3⟩ => ⟨h1, Nat.lt_of_lt_of_le h2 L.size, Room.brd h3 L h2 (Or.inr (Nat.le_trans hh h.lo))⟩⟩

/-- The list lies below lo or from hi on. -/
def FarC (lo hi : Nat) (a : Option Addr) (R : List Ct) : Prop := ∀ b o, a = some ⟨b, o, none⟩ → R ≠ [] → b < lo ∨ hi ≤ b

theorem FarC.of {lo hi : Nat} {w : World} {a : Option Addr} {R : List Ct} (h : Controls w a R) (hl : w.heap.size ≤ lo) : FarC lo hi a R := by
  intro b u e hne
  rcases h with h0 | ⟨b', o', e', hb, -⟩
  · exact absurd h0 hne
  · rw [e] at e'
    simp only [Option.some.injEq, Addr.mk.injEq] at e'
    omega

theorem FarC.mine {lo hi lo' : Nat} {w : World} {a : Option Addr} {R : List Ct} {g : Nat} (h : COwn lo' w a R g) (hh : hi ≤ lo') : FarC lo hi a R := by
  intro b u e hne
  rcases h.pl with h0 | ⟨h1, -, -⟩
  · exact absurd (List.eq_nil_of_length_eq_zero h0) hne
  · rw [e] at h1
    simp only [Option.some.injEq, Addr.mk.injEq] at h1
    have := h.lo
    omega

/-- The marks of a list. -/
structure CMk (w : World) (R : List Ct) (g : Nat) : Prop where
  md : Marked 1 w g R.length
  lt : R.length = 0 ∨ g < w.heap.size

theorem CMk.on {w w1 : World} {R : List Ct} {g : Nat} (h : CMk w R g) (L : Below w.heap.size w w1) : CMk w1 R g := by
  refine ⟨?_, h.lt.imp_right fun k => Nat.lt_of_lt_of_le k L.size⟩
  rcases h.lt with h0 | h0
  · intro i hi; omega
  · exact h.md.on L h0

set_option maxHeartbeats 1000000 in
theorem markC_val (a : Option Addr) (R : List Ct) (g cap lo hi : Nat) (w : World) (hz : R.length ≤ 1048577) (M : COwn lo w a R g) (hg : R.length = 0 ∨ g < hi) :
    Calls Try.prog 23 #[.slice a R.length cap, .int .i64 1] w fun e w' => e = .returned (.int .i64 (1 + 6 * (R.length : Int))) ∧ Brd lo hi w w' ∧ CMk w' R g := by
  rcases Nat.eq_zero_or_pos R.length with h0 | h0
  · refine (markControlS_val a w.heap.size R.length cap 1 w hz (by omega) (by omega) (Or.inl h0)).mono ?_
    rintro e w1 ⟨rfl, B1, K1, -⟩
    exact ⟨rfl, Brd.one B1 (Or.inl (Nat.le_refl _)), ⟨fun i hi => by omega, Or.inl h0⟩⟩
  · obtain ⟨h1, h2, h3⟩ := M.pl.resolve_left (by omega)
    refine (markControlS_val a g R.length cap 1 w hz (by omega) (by omega) (Or.inr ⟨h1, h3⟩)).mono ?_
    rintro e w1 ⟨rfl, B1, K1, -⟩
    exact ⟨rfl, Brd.one B1 (Or.inr ⟨M.lo, hg.resolve_left (by omega)⟩), ⟨K1, Or.inr (by rw [B1.size]; exact h2)⟩⟩

end Hn
end Go.Proofs.Ytjjfleepnjhamaa
