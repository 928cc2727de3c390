/- OfficeStart of both sides, whether an office can begin or not. -/
import Derived.Test.YtehmlnojjfeheaaGreatOfStartS
import Derived.Test.YtehmlnojjfeheaaGreatOfMark2Z
namespace Go.Proofs.YtehmlnojjfeheaaGreat
namespace Of
open Go.ChangeShapes Go.WideShapes Go.ChangeAt Go.RowKit Go.Joins
open Pk (new_below join_below cell_at heap_new frozen_at lt_of kept heap_old info_of Room)
set_option linter.unusedSimpArgs false
set_option linter.unusedVariables false

open Tn (Tr Stops Trains Nums Band)
open Tf (Ed Edges)

/-- What is told: the lists and the day, or nothing. -/
def outT (ts : List Tr) (es : List Ed) (td : Int) : List Tr := if startB ts es td = true then ts else []
def outE (ts : List Tr) (es : List Ed) (td : Int) : List Ed := if startB ts es td = true then es else []
def outD (ts : List Tr) (es : List Ed) (td : Int) : Int := if startB ts es td = true then td else 0

theorem out_len (ts : List Tr) (es : List Ed) (td : Int) : (outT ts es td).length ≤ 40 ∧ (∀ i (h : i < (outT ts es td).length), (outT ts es td)[i].l.length ≤ 20) ∧ Tn.bulk (outT ts es td) ≤ 1048576 ∧ (outE ts es td).length ≤ es.length := by
  unfold outT outE
  by_cases h : startB ts es td = true
  · rw [if_pos h, if_pos h]
    unfold startB at h
    simp only [Bool.and_eq_true] at h
    obtain ⟨h1, h2⟩ := lines_len h.1
    refine ⟨h1, fun i hi => (h2 i hi).2, ?_, Nat.le_refl _⟩
    have : ∀ k, k ≤ ts.length → Tn.sumTo ts k ≤ 20 * k := by
      intro k
      induction k with
      | zero => intro _; simp [Tn.sumTo]
      | succ k ih =>
        intro hk
        have := ih (by omega)
        have := (h2 k (by omega)).2
        rw [Tn.sumTo_step ts k (by omega)]
        omega
    have := this ts.length (Nat.le_refl _)
    unfold Tn.bulk
    omega
  · rw [if_neg h, if_neg h]
    exact ⟨by simp, fun i hi => by simp at hi, by simp [Tn.bulk, Tn.sumTo], by simp⟩

/-- An office that begins, as a value. -/
abbrev stV (a2 : Option Addr) (n c2 : Nat) (a3 : Option Addr) (m c3 : Nat) (td : Int) : Value := .agg #[.slice a2 n c2, .slice a3 m c3, .slice none 0 0, .slice none 0 0, .slice none 0 0, .int .i64 td]
abbrev stB (a2 : Option Addr) (n c2 : Nat) (a3 : Option Addr) (m c3 : Nat) (td : Int) : Obj := .cells #[.slice a2 n c2, .slice a3 m c3, .slice none 0 0, .slice none 0 0, .slice none 0 0, .int .i64 td] 36

theorem eqStart_same (a2 a3 b2 b3 : Option Addr) (c2 c3 e2 e3 : Nat) (ts : List Tr) (es : List Ed) (td : Int) (w : World) (hn : Tn.bulk ts ≤ 1048576) (hm : es.length ≤ 1048576) (I : Trains w a2 ts) (J : Edges w a3 es) (I2 : Trains w b2 ts) (J2 : Edges w b3 es) :
    Calls Tryz.prog 9 #[stV a2 ts.length c2 a3 es.length c3 td, stV b2 ts.length e2 b3 es.length e3 td] w fun e w' => e = .returned (.bool true) ∧ Below w.heap.size w w' :=
  eqOffice_same ⟨a2, a3, none, none, none, c2, c3, 0, 0, 0⟩ ⟨b2, b3, none, none, none, e2, e3, 0, 0, 0⟩ ⟨ts, es, [], [], [], td⟩ w ⟨hn, hm, by simp, by simp [Od.bulk, Od.sumTo], by simp⟩ ⟨I, J, Or.inl rfl, Or.inl rfl, Or.inl rfl⟩ ⟨I2, J2, Or.inl rfl, Or.inl rfl, Or.inl rfl⟩

/-- Blocks from lo on are kept. -/
def Kh (lo : Nat) (w w1 : World) : Prop := w.heap.size ≤ w1.heap.size ∧ ∀ b, lo ≤ b → b < w.heap.size → w1.heap[b]? = w.heap[b]?

theorem Kh.refl (lo : Nat) (w : World) : Kh lo w w := ⟨Nat.le_refl _, fun _ _ _ => rfl⟩
theorem Kh.of {lo : Nat} {w w1 w2 : World} (h : Kh lo w w1) (L : Below w1.heap.size w1 w2) : Kh lo w w2 := ⟨Nat.le_trans h.1 L.size, fun b h1 h2 => by rw [L.block b (Nat.lt_of_lt_of_le h2 h.1), h.2 b h1 h2]⟩
theorem Kh.band {lo p q : Nat} {w w1 w2 : World} (h : Kh lo w w1) (B : Band p q w1 w2) (hq : q ≤ lo) : Kh lo w w2 := ⟨by rw [B.size]; exact h.1, fun b h1 h2 => by rw [B.block b (Or.inr (by omega)), h.2 b h1 h2]⟩

theorem le_kh {w w1 : World} {lo mid : Nat} {gf cf : Nat → Nat} {a2 a3 : Option Addr} {ts : List Tr} {es : List Ed} (h1 : lo ≤ mid) (h : Lm w lo mid a2 gf cf ts ∧ Et w mid a3 es) (k : Kh lo w w1) : Lm w1 lo mid a2 gf cf ts ∧ Et w1 mid a3 es := by
  obtain ⟨h2, h3⟩ := h
  have hc : ∀ b i, lo ≤ b → b < w.heap.size → w1.cell? ⟨b, i, none⟩ = w.cell? ⟨b, i, none⟩ := fun b i h1 h2 => World.cell?_of_block (k.2 b h1 h2)
  have hf : ∀ b i, lo ≤ b → b < w.heap.size → w1.frozen? ⟨b, i, none⟩ = w.frozen? ⟨b, i, none⟩ := fun b i h1 h2 => World.frozen?_of_block (k.2 b h1 h2)
  have kp : Kp lo w w1 := ⟨k.1, fun p h1 h2 => World.cell?_of_block (k.2 p.block h1 h2)⟩
  refine ⟨?_, ?_⟩
  · rcases h2 with h0 | ⟨g, q0, q1, q2, q3, q4, q5⟩
    · exact Or.inl h0
    · refine Or.inr ⟨g, q0, q1, q2, Nat.le_trans q3 k.1, ⟨fun j hj => ?_, fun i hi => (q4.nums i hi).on fun j => hc g j q1 (by omega), fun i hi hk => ?_, q4.apart, fun i hi hk => by omega⟩, q5⟩
      · rw [hc g j q1 (by omega), hf g j q1 (by omega)]
        exact q4.room j hj
      · obtain ⟨r1, r2, r3, r4, r5, r6⟩ := q4.each i hi hk
        refine ⟨r1, r2, Nat.lt_of_lt_of_le r3 k.1, by rw [hc g _ q1 (by omega)]; exact r4, stops_kp r5 r1 kp, fun j hj => ?_⟩
        rw [hc (gf i) j r1 r3, hf (gf i) j r1 r3]
        exact r6 j hj
  · rcases h3 with h0 | ⟨g, q0, q1, q2, q3, q4⟩
    · exact Or.inl h0
    · refine Or.inr ⟨g, q0, q1, Nat.lt_of_lt_of_le q2 k.1, edges_kp q3 (by omega) kp, fun j hj => ?_⟩
      rw [hc g j (by omega) q2, hf g j (by omega) q2]
      exact q4 j hj

theorem St.trains {w : World} {lo : Nat} {a2 a3 : Option Addr} {ts : List Tr} {es : List Ed} (h : St w lo a2 a3 ts es) : Trains w a2 ts ∧ Edges w a3 es := by
  obtain ⟨mid, gf, cf, h1, h2, h3⟩ := h
  exact ⟨h2.lt.trains, h3.edges⟩

end Of
end Go.Proofs.YtehmlnojjfeheaaGreat
