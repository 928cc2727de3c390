/- The marks of a whole office that was copied, and of a platform of two. -/
import Derived.Test.YtehmlnojjfeheaaGreatPfMark
import Derived.Test.YtehmlnojjfeheaaGreatOfGen
namespace Go.Proofs.YtehmlnojjfeheaaGreat
namespace Of
open Go.ChangeShapes Go.WideShapes Go.ChangeAt Go.RowKit Go.Joins
open Pk (new_below join_below cell_at heap_new frozen_at lt_of kept heap_old info_of Room)
open Tn (Band Tr)
open Od (Oo)
set_option linter.unusedSimpArgs false
set_option linter.unusedVariables false

/-- Numbers behind each list's marks. -/
def z1 (z : Int) (o : Offc) : Int := off z o.ln o.ln.length
def z2 (z : Int) (o : Offc) : Int := z1 z o + 3 * (o.ta.length : Int)
def z3 (z : Int) (o : Offc) : Int := z2 z o + 7 * (o.ho.length : Int)
def z4 (z : Int) (o : Offc) : Int := offO (z3 z o) o.od o.od.length
def z5 (z : Int) (o : Offc) : Int := z4 z o + 4 * (o.to.length : Int)

/-- No list is too long for the marks. -/
structure Sm (o : Offc) : Prop where
  ln : o.ln.length ≤ 40
  st : ∀ i (h : i < o.ln.length), o.ln[i].l.length ≤ 20
  ta : o.ta.length ≤ 1048576
  ho : o.ho.length ≤ 1048576
  od : o.od.length ≤ 1048576
  rd : ∀ i (h : i < o.od.length), o.od[i].l.length ≤ 1048576
  to : o.to.length ≤ 1048576

theorem z_bd {z : Int} {o : Offc} (S : Sm o) (h1 : 1 ≤ z) (h2 : z ≤ 10000000000000) : 1 ≤ z1 z o ∧ z1 z o ≤ 100000000000000 ∧ 1 ≤ z2 z o ∧ z2 z o ≤ 100000000000000 ∧ 1 ≤ z3 z o ∧ z3 z o ≤ 100000000000000 ∧ 1 ≤ z4 z o ∧ z4 z o ≤ 100000000000000 ∧ 1 ≤ z5 z o ∧ z5 z o ≤ z + 5000000000000 := by
  have a := off_bd z o.ln S.st o.ln.length (Nat.le_refl _)
  have b := offO_bd (z3 z o) o.od S.rd o.od.length (Nat.le_refl _)
  have := S.ln
  have := S.ta
  have := S.ho
  have := S.od
  have := S.to
  unfold z5 z4
  unfold z3 z2 z1 at *
  omega

/-- What of a copied office may be written. -/
structure Rw' (w : World) (m0 m1 m2 m3 m4 m5 : Nat) (x : Pl) (o : Offc) (gf cf hf : Nat → Nat) : Prop where
  ln : Lu m1 m2 x.a0 gf cf o.ln w
  ta : Rm m2 m3 x.a1 o.ta.length 3 w
  ho : Rm m0 m1 x.a2 o.ho.length 7 w
  od : Mo m3 m4 x.a3 hf o.od w
  to : Rm m4 m5 x.a4 o.to.length 4 w
  ap : ApO hf o.od
  le : m0 ≤ m1 ∧ m1 ≤ m2 ∧ m2 ≤ m3 ∧ m3 ≤ m4 ∧ m4 ≤ m5 ∧ m5 ≤ w.heap.size

/-- A copied office that bears its marks from a number on. -/
structure Mw (z : Int) (w : World) (m0 m1 m2 m3 m4 m5 : Nat) (x : Pl) (o : Offc) (gf cf hf : Nat → Nat) : Prop where
  ln : LT z w m1 m2 x.a0 gf cf o.ln
  ta : Le m2 m3 x.a1 o.ta.length (z1 z o) w
  ho : Lh m0 m1 x.a2 o.ho.length (z2 z o) w
  od : Lo m3 m4 x.a3 hf o.od (z3 z o) w
  to : Lr m4 m5 x.a4 o.to.length (z4 z o) w
  le : m0 ≤ m1 ∧ m1 ≤ m2 ∧ m2 ≤ m3 ∧ m3 ≤ m4 ∧ m4 ≤ m5 ∧ m5 ≤ w.heap.size

theorem Rw'.of {w : World} {m0 m1 m2 m3 m4 m5 : Nat} {x : Pl} {o : Offc} {gf cf hf : Nat → Nat} (h : OG w m0 m1 m2 m3 m4 m5 x o gf cf hf) : Rw' w m0 m1 m2 m3 m4 m5 x o gf cf hf := by
  obtain ⟨h0, h1, h2, h3, h4, h5⟩ := h
  refine ⟨?_, ?_, ?_, ?_, ?_, ?_, h5⟩
  · rcases h1 with h | ⟨g, q1, q2, q3, q4, q5, q6⟩
    · exact Or.inl h
    · exact Or.inr ⟨g, q1, q2, q3, q4, Mc.of q5 q6⟩
  · rcases h2 with h | ⟨g, q1, q2, q3, q4, q5, q6⟩
    · exact Or.inl h
    · exact Or.inr ⟨g, q1, q2, q3, q4, q6⟩
  · rcases h0 with h | ⟨g, q1, q2, q3, q4, q5, q6⟩
    · exact Or.inl h
    · exact Or.inr ⟨g, q1, q2, q3, q4, q6⟩
  · rcases h3 with h | ⟨g, q1, q2, q3, q4, q5, q6⟩
    · exact Or.inl h
    · refine Or.inr ⟨g, q1, q2, q3, q4, q5.room, fun i hi => ?_⟩
      obtain ⟨a, c, r1, r2⟩ := q5.each i hi hi
      refine ⟨a, c, r1, ?_⟩
      by_cases hz : o.od[i].l.length = 0
      · exact Or.inl hz
      · rcases r2 with r2 | ⟨s1, s2, s3, s4, s5, s6⟩
        · exact Or.inl r2
        · exact Or.inr ⟨s1, s2, q6 i hi hz, s3, s6⟩
  · rcases h4 with h | ⟨g, q1, q2, q3, q4, q5, q6⟩
    · exact Or.inl h
    · exact Or.inr ⟨g, q1, q2, q3, q4, q6⟩
  · intro i j hi hj hij n1 n2
    rcases h3 with h | ⟨g, q1, q2, q3, q4, q5, q6⟩
    · omega
    · exact q5.apart i j hi hj hi hj hij n1 n2

theorem Rw'.fb {w w1 : World} {lo hi m0 m1 m2 m3 m4 m5 : Nat} {x : Pl} {o : Offc} {gf cf hf : Nat → Nat} (h : Rw' w m0 m1 m2 m3 m4 m5 x o gf cf hf) (F : Fb lo hi w w1) (hd : m5 ≤ lo ∨ hi ≤ m0) : Rw' w1 m0 m1 m2 m3 m4 m5 x o gf cf hf := by
  obtain ⟨h1, h2, h0, h3, h4, ha, hl⟩ := h
  have := F.size
  exact ⟨Loc.fb (Lu.loc _ _ _ _ _ _) h1 F (by omega) (by omega), Loc.fb (Rm.loc _ _ _ _ _) h2 F (by omega) (by omega), Loc.fb (Rm.loc _ _ _ _ _) h0 F (by omega) (by omega), Loc.fb (Mo.loc _ _ _ _ _) h3 F (by omega) (by omega), Loc.fb (Rm.loc _ _ _ _ _) h4 F (by omega) (by omega), ha, by omega⟩

theorem Mw.fb {z : Int} {w w1 : World} {lo hi m0 m1 m2 m3 m4 m5 : Nat} {x : Pl} {o : Offc} {gf cf hf : Nat → Nat} (h : Mw z w m0 m1 m2 m3 m4 m5 x o gf cf hf) (F : Fb lo hi w w1) (hd : m5 ≤ lo ∨ hi ≤ m0) : Mw z w1 m0 m1 m2 m3 m4 m5 x o gf cf hf := by
  obtain ⟨h1, h2, h0, h3, h4, hl⟩ := h
  have := F.size
  exact ⟨Loc.fb (LT.loc _ _ _ _ _ _ _) h1 F (by omega) (by omega), Loc.fb (Le.loc _ _ _ _ _) h2 F (by omega) (by omega), Loc.fb (Lh.loc _ _ _ _ _) h0 F (by omega) (by omega), Loc.fb (Lo.loc _ _ _ _ _ _) h3 F (by omega) (by omega), Loc.fb (Lr.loc _ _ _ _ _) h4 F (by omega) (by omega), by omega⟩

theorem Rw'.on {w w1 : World} {m0 m1 m2 m3 m4 m5 : Nat} {x : Pl} {o : Offc} {gf cf hf : Nat → Nat} (h : Rw' w m0 m1 m2 m3 m4 m5 x o gf cf hf) (K : Below w.heap.size w w1) : Rw' w1 m0 m1 m2 m3 m4 m5 x o gf cf hf := h.fb (Fb.of (lo := m5) (hi := m5) K) (Or.inl (Nat.le_refl _))

theorem Mw.on {z : Int} {w w1 : World} {m0 m1 m2 m3 m4 m5 : Nat} {x : Pl} {o : Offc} {gf cf hf : Nat → Nat} (h : Mw z w m0 m1 m2 m3 m4 m5 x o gf cf hf) (K : Below w.heap.size w w1) : Mw z w1 m0 m1 m2 m3 m4 m5 x o gf cf hf := h.fb (Fb.of (lo := m5) (hi := m5) K) (Or.inl (Nat.le_refl _))

theorem markOffG_val (z : Int) (hz : 1 ≤ z) (hz2 : z ≤ 10000000000000) (m0 m1 m2 m3 m4 m5 : Nat) (x : Pl) (o : Offc) (gf cf hf : Nat → Nat) (w : World) (S : Sm o) (R : Rw' w m0 m1 m2 m3 m4 m5 x o gf cf hf) :
    Calls Tryz.prog 10 #[.agg #[.slice x.a0 o.ln.length x.c0, .slice x.a1 o.ta.length x.c1, .slice x.a2 o.ho.length x.c2, .slice x.a3 o.od.length x.c3, .slice x.a4 o.to.length x.c4, .int .i64 o.td], .int .i64 z] w fun e w' => e = .returned (.int .i64 (z5 z o)) ∧ Fb m0 m5 w w' ∧ Mw z w' m0 m1 m2 m3 m4 m5 x o gf cf hf := by
  have B := z_bd S hz hz2
  have hle := R.le
  have A := R.ap
  refine (markOffice_gen x o.ln.length o.ta.length o.ho.length o.od.length o.to.length o.td z m0 m5 w (by omega)
    (fun e W => e = z1 z o ∧ m5 ≤ W.heap.size ∧ LT z W m1 m2 x.a0 gf cf o.ln ∧ Rm m2 m3 x.a1 o.ta.length 3 W ∧ Rm m0 m1 x.a2 o.ho.length 7 W ∧ Mo m3 m4 x.a3 hf o.od W ∧ Rm m4 m5 x.a4 o.to.length 4 W)
    (fun e W => e = z2 z o ∧ m5 ≤ W.heap.size ∧ LT z W m1 m2 x.a0 gf cf o.ln ∧ Le m2 m3 x.a1 o.ta.length (z1 z o) W ∧ Rm m0 m1 x.a2 o.ho.length 7 W ∧ Mo m3 m4 x.a3 hf o.od W ∧ Rm m4 m5 x.a4 o.to.length 4 W)
    (fun e W => e = z3 z o ∧ m5 ≤ W.heap.size ∧ LT z W m1 m2 x.a0 gf cf o.ln ∧ Le m2 m3 x.a1 o.ta.length (z1 z o) W ∧ Lh m0 m1 x.a2 o.ho.length (z2 z o) W ∧ Mo m3 m4 x.a3 hf o.od W ∧ Rm m4 m5 x.a4 o.to.length 4 W)
    (fun e W => e = z4 z o ∧ m5 ≤ W.heap.size ∧ LT z W m1 m2 x.a0 gf cf o.ln ∧ Le m2 m3 x.a1 o.ta.length (z1 z o) W ∧ Lh m0 m1 x.a2 o.ho.length (z2 z o) W ∧ Lo m3 m4 x.a3 hf o.od (z3 z o) W ∧ Rm m4 m5 x.a4 o.to.length 4 W)
    (fun e W => e = z5 z o ∧ Mw z W m0 m1 m2 m3 m4 m5 x o gf cf hf) ?_ ?_ ?_ ?_ ?_).mono ?_
  · intro W K
    have q := R.on K
    refine (markT_z S.ln S.st (by omega) (by omega) q.ln).mono ?_
    rintro e w' ⟨rfl, F, q1⟩
    have hl := q.le
    have := F.size
    exact ⟨_, rfl, F.wide (by omega) (by omega), rfl, by omega, q1, Loc.fb (Rm.loc _ _ _ _ _) q.ta F (by omega) (by omega), Loc.fb (Rm.loc _ _ _ _ _) q.ho F (by omega) (by omega), Loc.fb (Mo.loc _ _ _ _ _) q.od F (by omega) (by omega), Loc.fb (Rm.loc _ _ _ _ _) q.to F (by omega) (by omega)⟩
  · rintro e W ⟨rfl, hs, q1, q2, q3, q4, q5⟩
    refine (markE_z S.ta (by omega) (by omega) q2).mono ?_
    rintro e w' ⟨rfl, F, q2⟩
    have := F.size
    exact ⟨_, rfl, F.wide (by omega) (by omega), rfl, by omega, Loc.fb (LT.loc _ _ _ _ _ _ _) q1 F (by omega) (by omega), q2, Loc.fb (Rm.loc _ _ _ _ _) q3 F (by omega) (by omega), Loc.fb (Mo.loc _ _ _ _ _) q4 F (by omega) (by omega), Loc.fb (Rm.loc _ _ _ _ _) q5 F (by omega) (by omega)⟩
  · rintro e W ⟨rfl, hs, q1, q2, q3, q4, q5⟩
    refine (markH_z S.ho (by omega) (by omega) q3).mono ?_
    rintro e w' ⟨rfl, F, q3⟩
    have := F.size
    exact ⟨_, rfl, F.wide (by omega) (by omega), rfl, by omega, Loc.fb (LT.loc _ _ _ _ _ _ _) q1 F (by omega) (by omega), Loc.fb (Le.loc _ _ _ _ _) q2 F (by omega) (by omega), q3, Loc.fb (Mo.loc _ _ _ _ _) q4 F (by omega) (by omega), Loc.fb (Rm.loc _ _ _ _ _) q5 F (by omega) (by omega)⟩
  · rintro e W ⟨rfl, hs, q1, q2, q3, q4, q5⟩
    refine (markO_z S.od S.rd (by omega) (by omega) q4).mono ?_
    rintro e w' ⟨rfl, F, q4⟩
    have := F.size
    exact ⟨_, rfl, F.wide (by omega) (by omega), rfl, by omega, Loc.fb (LT.loc _ _ _ _ _ _ _) q1 F (by omega) (by omega), Loc.fb (Le.loc _ _ _ _ _) q2 F (by omega) (by omega), Loc.fb (Lh.loc _ _ _ _ _) q3 F (by omega) (by omega), q4 A, Loc.fb (Rm.loc _ _ _ _ _) q5 F (by omega) (by omega)⟩
  · rintro e W ⟨rfl, hs, q1, q2, q3, q4, q5⟩
    refine (markR_z S.to (by omega) (by omega) q5).mono ?_
    rintro e w' ⟨rfl, F, q5⟩
    have := F.size
    exact ⟨_, rfl, F.wide (by omega) (by omega), rfl, Loc.fb (LT.loc _ _ _ _ _ _ _) q1 F (by omega) (by omega), Loc.fb (Le.loc _ _ _ _ _) q2 F (by omega) (by omega), Loc.fb (Lh.loc _ _ _ _ _) q3 F (by omega) (by omega), Loc.fb (Lo.loc _ _ _ _ _ _) q4 F (by omega) (by omega), q5, by omega⟩
  · rintro e w' ⟨_, rfl, F, rfl, M⟩
    exact ⟨rfl, F, M⟩

theorem heldOffG_val (z : Int) (hz : 1 ≤ z) (hz2 : z ≤ 10000000000000) (m0 m1 m2 m3 m4 m5 : Nat) (x : Pl) (o : Offc) (gf cf hf : Nat → Nat) (w : World) (S : Sm o) (M : Mw z w m0 m1 m2 m3 m4 m5 x o gf cf hf) :
    Calls Tryz.prog 37 #[.agg #[.slice x.a0 o.ln.length x.c0, .slice x.a1 o.ta.length x.c1, .slice x.a2 o.ho.length x.c2, .slice x.a3 o.od.length x.c3, .slice x.a4 o.to.length x.c4, .int .i64 o.td], .int .i64 z] w fun e w' => e = .returned (.int .i64 (z5 z o)) ∧ Below w.heap.size w w' := by
  have B := z_bd S hz hz2
  refine heldOffice_gen x o.ln.length o.ta.length o.ho.length o.od.length o.to.length o.td z (z1 z o) (z2 z o) (z3 z o) (z4 z o) (z5 z o) w (by omega) (by omega) (by omega) (by omega) (by omega) ?_ ?_ ?_ ?_ ?_
  · intro W K
    exact heldT_z S.ln S.st (by omega) (by omega) (M.on K).ln
  · intro W K
    exact heldE_z S.ta (by omega) (by omega) (M.on K).ta
  · intro W K
    exact heldH_z S.ho (by omega) (by omega) (M.on K).ho
  · intro W K
    exact heldO_z S.od S.rd (by omega) (by omega) (M.on K).od
  · intro W K
    exact heldR_z S.to (by omega) (by omega) (M.on K).to

theorem markPlatG_val (z : Int) (hz : 1 ≤ z) (hz2 : z ≤ 1000000000000) (m0 m1 m2 m3 m4 m5 t0 t1 t2 t3 t4 t5 : Nat) (x y : Pl) (o : Offc) (gf cf hf gf' cf' hf' : Nat → Nat) (s : ByteArray) (sy : Int) (w : World) (S : Sm o) (hmt : m5 ≤ t0) (R : Rw' w m0 m1 m2 m3 m4 m5 x o gf cf hf) (T : Rw' w t0 t1 t2 t3 t4 t5 y o gf' cf' hf') :
    Calls Tryz.prog 11 #[.agg #[.slice x.a0 o.ln.length x.c0, .slice x.a1 o.ta.length x.c1, .slice x.a2 o.ho.length x.c2, .slice x.a3 o.od.length x.c3, .slice x.a4 o.to.length x.c4, .int .i64 o.td, .slice y.a0 o.ln.length y.c0, .slice y.a1 o.ta.length y.c1, .slice y.a2 o.ho.length y.c2, .slice y.a3 o.od.length y.c3, .slice y.a4 o.to.length y.c4, .int .i64 o.td, .string s, .int .i64 sy], .int .i64 z] w fun e w' => e = .returned (.int .i64 (z5 (z5 z o) o)) ∧ Fb m0 t5 w w' ∧ Mw z w' m0 m1 m2 m3 m4 m5 x o gf cf hf ∧ Mw (z5 z o) w' t0 t1 t2 t3 t4 t5 y o gf' cf' hf' := by
  have B := z_bd S hz (by omega)
  have l1 := R.le
  have l2 := T.le
  refine (markPlat_gen x y o.ln.length o.ta.length o.ho.length o.od.length o.to.length o.td z s sy m0 t5 w (by omega)
    (fun e W => e = z5 z o ∧ Mw z W m0 m1 m2 m3 m4 m5 x o gf cf hf ∧ Rw' W t0 t1 t2 t3 t4 t5 y o gf' cf' hf')
    (fun e W => e = z5 (z5 z o) o ∧ Mw z W m0 m1 m2 m3 m4 m5 x o gf cf hf ∧ Mw (z5 z o) W t0 t1 t2 t3 t4 t5 y o gf' cf' hf') ?_ ?_).mono ?_
  · intro W K
    refine (markOffG_val z hz (by omega) m0 m1 m2 m3 m4 m5 x o gf cf hf W S (R.on K)).mono ?_
    rintro e w' ⟨rfl, F, q⟩
    exact ⟨_, rfl, F.wide (by omega) (by omega), rfl, q, (T.on K).fb F (Or.inr hmt)⟩
  · rintro e W ⟨rfl, q, t⟩
    refine (markOffG_val (z5 z o) (by omega) (by omega) t0 t1 t2 t3 t4 t5 y o gf' cf' hf' W S t).mono ?_
    rintro e w' ⟨rfl, F, t⟩
    exact ⟨_, rfl, F.wide (by omega) (by omega), rfl, q.fb F (Or.inl hmt), t⟩
  · rintro e w' ⟨_, rfl, F, rfl, q⟩
    exact ⟨rfl, F, q⟩

theorem heldPlatG_val (z : Int) (hz : 1 ≤ z) (hz2 : z ≤ 1000000000000) (m0 m1 m2 m3 m4 m5 t0 t1 t2 t3 t4 t5 : Nat) (x y : Pl) (o : Offc) (gf cf hf gf' cf' hf' : Nat → Nat) (s : ByteArray) (sy : Int) (w : World) (S : Sm o) (R : Mw z w m0 m1 m2 m3 m4 m5 x o gf cf hf) (T : Mw (z5 z o) w t0 t1 t2 t3 t4 t5 y o gf' cf' hf') :
    Calls Tryz.prog 12 #[.agg #[.slice x.a0 o.ln.length x.c0, .slice x.a1 o.ta.length x.c1, .slice x.a2 o.ho.length x.c2, .slice x.a3 o.od.length x.c3, .slice x.a4 o.to.length x.c4, .int .i64 o.td, .slice y.a0 o.ln.length y.c0, .slice y.a1 o.ta.length y.c1, .slice y.a2 o.ho.length y.c2, .slice y.a3 o.od.length y.c3, .slice y.a4 o.to.length y.c4, .int .i64 o.td, .string s, .int .i64 sy], .int .i64 z] w fun e w' => e = .returned (.int .i64 (z5 (z5 z o) o)) ∧ Below w.heap.size w w' := by
  have B := z_bd S hz (by omega)
  have B2 := z_bd S (z := z5 z o) (by omega) (by omega)
  refine heldPlat_gen x y o.ln.length o.ta.length o.ho.length o.od.length o.to.length o.td z (z5 z o) (z5 (z5 z o) o) s sy w (by omega) (by omega) ?_ ?_
  · intro W K
    exact heldOffG_val z hz (by omega) m0 m1 m2 m3 m4 m5 x o gf cf hf W S (R.on K)
  · intro W K
    exact heldOffG_val (z5 z o) (by omega) (by omega) t0 t1 t2 t3 t4 t5 y o gf' cf' hf' W S (T.on K)

end Of
end Go.Proofs.YtehmlnojjfeheaaGreat
