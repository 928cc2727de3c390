/- The mathematics of the program's search: ways taken in the order of their hour and their rides, none twice at a station with no fewer rides. -/
import Derived.Test.YtfoccmhmgdengaaMathEar
namespace Go.Proofs.Ytfoccmhmgdengaa
namespace Rd
set_option linter.unusedSimpArgs false
set_option linter.unusedVariables false

/-- Where so many rides have led, and from when on it can go on. -/
structure Vw where
  s : Int
  y : Int
  n : Nat
deriving DecidableEq

/-- Whatever goes on from a station at an hour to the end passes a way of the list. -/
def Cov (H : List Hp) (to : Int) (ws : List Vw) (st y : Int) (n : Nat) (b : Bool) : Prop :=
  ∀ q, isWay H st y q → n + q.length ≤ 6 → endS st q = to → ∃ q1 q2 v, q = q1 ++ q2 ∧ v ∈ ws ∧ v.s = endS st q1 ∧ v.y ≤ endY y q1 ∧ v.n ≤ n + q1.length ∧ (b = true → q1 ≠ [])

theorem endY_mono {y y' : Int} (h : y ≤ y') (q : List Hp) : endY y q ≤ endY y' q := by
  cases q with
  | nil => exact h
  | cons a q => exact Int.le_refl _

/-- No hop arrives ahead of its setting out. -/
def Fwd (H : List Hp) : Prop := ∀ h ∈ H, h.d ≤ h.z

theorem endY_up {H : List Hp} (F : Fwd H) : ∀ {q : List Hp} {s y : Int}, isWay H s y q → y ≤ endY y q ∧ (q ≠ [] → y < endY y q)
  | [], s, y, _ => ⟨Int.le_refl _, fun h => absurd rfl h⟩
  | h :: q, s, y, w => by
    have h1 := (endY_up F w.2.2.2).1
    have h2 := F h w.1
    have h3 := w.2.2.1
    have e : endY y (h :: q) = endY (h.z + 3) q := rfl
    rw [e]
    constructor
    · omega
    · intro _; omega

/-- One way is taken off the list and others come: what the taken one led to is led to by these. -/
theorem Cov.step {H : List Hp} {to : Int} {ws ws' : List Vw} {w : Vw} (hin : ∀ v ∈ ws, v = w ∨ v ∈ ws') (W : Cov H to ws' w.s w.y w.n false) {st y : Int} {n : Nat} {b : Bool} (C : Cov H to ws st y n b) : Cov H to ws' st y n b := by
  intro q hq hl he
  obtain ⟨q1, q2, v, rfl, hv, h1, h2, h3, h4⟩ := C q hq hl he
  rcases hin v hv with rfl | hv'
  · rw [isWay_append] at hq
    rw [endS_append] at he
    rw [List.length_append] at hl
    have w2 : isWay H v.s v.y q2 := by rw [h1]; exact isWay_earlier hq.2 h2
    obtain ⟨q3, q4, u, rfl, hu, g1, g2, g3, -⟩ := W q2 w2 (by omega) (by rw [h1]; exact he)
    refine ⟨q1 ++ q3, q4, u, by rw [List.append_assoc], hu, ?_, ?_, ?_, fun hb => ?_⟩
    · rw [endS_append, ← h1]; exact g1
    · rw [endY_append]; exact Int.le_trans g2 (endY_mono h2 q3)
    · rw [List.length_append]; omega
    · intro e
      exact h4 hb (List.append_eq_nil_iff.1 e).1
  · exact ⟨q1, q2, v, rfl, hv', h1, h2, h3, h4⟩

/-- A way that is gone on with is covered by what comes of it. -/
theorem cov_out {H : List Hp} {to : Int} {ws' : List Vw} {w : Vw} (hne : w.s ≠ to) (hall : ∀ h ∈ H, h.r.fr = w.s → w.y ≤ h.d → ∃ v ∈ ws', v.s = h.r.to ∧ v.y = h.z + 3 ∧ v.n = w.n + 1) (b : Bool) : Cov H to ws' w.s w.y w.n b := by
  intro q hq hl he
  cases q with
  | nil => exact absurd he hne
  | cons h q =>
    obtain ⟨v, hv, e1, e2, e3⟩ := hall h hq.1 hq.2.1 hq.2.2.1
    exact ⟨[h], q, v, rfl, hv, e1, by rw [e2]; exact Int.le_refl _, by rw [e3]; exact Nat.le_refl _, fun _ => by simp⟩

/-- A way with six rides leads nowhere else. -/
theorem cov_six {H : List Hp} {to : Int} {ws' : List Vw} {w : Vw} (hne : w.s ≠ to) (h6 : 6 ≤ w.n) (b : Bool) : Cov H to ws' w.s w.y w.n b := by
  intro q hq hl he
  cases q with
  | nil => exact absurd he hne
  | cons h q => simp only [List.length_cons] at hl; omega

/-- A way to a station that was gone on from before, no later and with no more rides, may be left. -/
theorem cov_met {H : List Hp} {to : Int} {ws ws' : List Vw} {w : Vw} (hin : ∀ v ∈ ws, v = w ∨ v ∈ ws') (hne : w.s ≠ to) {y0 : Int} {n0 : Nat} (hy : y0 ≤ w.y) (hn : n0 ≤ w.n) (C : Cov H to ws w.s y0 n0 true) : Cov H to ws' w.s w.y w.n false := by
  have key : ∀ (k : Nat) (q : List Hp), q.length ≤ k → isWay H w.s w.y q → w.n + q.length ≤ 6 → endS w.s q = to → ∃ q1 q2 v, q = q1 ++ q2 ∧ v ∈ ws' ∧ v.s = endS w.s q1 ∧ v.y ≤ endY w.y q1 ∧ v.n ≤ w.n + q1.length ∧ (false = true → q1 ≠ []) := by
    intro k
    induction k with
    | zero =>
      intro q hk hq hl he
      have : q = [] := List.eq_nil_of_length_eq_zero (by omega)
      subst this
      exact absurd he hne
    | succ k ih =>
      intro q hk hq hl he
      obtain ⟨q1, q2, v, rfl, hv, h1, h2, h3, h4⟩ := C q (isWay_earlier hq hy) (by omega) he
      have hq1 := h4 rfl
      have hl1 : 0 < q1.length := List.length_pos_iff.2 hq1
      have he1 : endY y0 q1 ≤ endY w.y q1 := endY_mono hy q1
      rcases hin v hv with rfl | hv'
      · rw [isWay_append] at hq
        rw [endS_append] at he
        rw [List.length_append] at hl hk
        have w2 : isWay H v.s v.y q2 := by
          have := isWay_earlier hq.2 (Int.le_trans h2 he1)
          rw [← h1] at this
          exact this
        obtain ⟨q3, q4, u, rfl, hu, g1, g2, g3, -⟩ := ih q2 (by omega) w2 (by omega) (by rw [← h1] at he; exact he)
        refine ⟨q1 ++ q3, q4, u, by rw [List.append_assoc], hu, ?_, ?_, ?_, fun hb => by cases hb⟩
        · rw [endS_append, ← h1]; exact g1
        · rw [endY_append]; exact Int.le_trans g2 (endY_mono (Int.le_trans h2 he1) q3)
        · rw [List.length_append]; omega
      · exact ⟨q1, q2, v, rfl, hv', h1, Int.le_trans h2 he1, by omega, fun hb => by cases hb⟩
  intro q hq hl he
  exact key q.length q (Nat.le_refl _) hq hl he

/-- Every way of the list is a way of hops from the start. -/
def Real (H : List Hp) (s y : Int) (ws : List Vw) : Prop := ∀ v ∈ ws, ∃ p, isWay H s y p ∧ endS s p = v.s ∧ endY y p = v.y ∧ p.length = v.n ∧ v.n ≤ 6

/-- What holds while the search goes on: fw tells the fewest rides with which a station was gone on from. -/
structure Srch (H : List Hp) (s y to : Int) (ws : List Vw) (fw : Int → Option Nat) : Prop where
  real : Real H s y ws
  cov : Cov H to ws s y 0 false
  met : ∀ st n, fw st = some n → ∃ y0, Cov H to ws st y0 n true ∧ ∀ v ∈ ws, y0 ≤ v.y

theorem Srch.start (H : List Hp) (s y to : Int) : Srch H s y to [⟨s, y, 0⟩] (fun _ => none) :=
  ⟨fun v hv => by
    obtain rfl := List.mem_singleton.1 hv
    exact ⟨[], trivial, rfl, rfl, rfl, by simp⟩,
  fun q hq hl he => ⟨[], q, ⟨s, y, 0⟩, rfl, by simp, rfl, Int.le_refl _, Nat.le_refl _, fun h => by cases h⟩,
  fun st n h => by cases h⟩

/-- The way that is taken: none of the list is ready sooner, nor as soon with fewer rides. -/
def Top (ws : List Vw) (w : Vw) : Prop := w ∈ ws ∧ ∀ v ∈ ws, w.y < v.y ∨ (w.y = v.y ∧ w.n ≤ v.n)

/-- The search goes on from the way that was taken. -/
theorem Srch.go {H : List Hp} {s y to : Int} {ws ws' : List Vw} {fw fw' : Int → Option Nat} {w : Vw} (F : Fwd H) (S : Srch H s y to ws fw) (T : Top ws w) (hne : w.s ≠ to) (h6 : w.n ≠ 6)
    (hin : ∀ v ∈ ws, v = w ∨ v ∈ ws') (hnew : ∀ v ∈ ws', v ∈ ws ∨ ∃ h ∈ H, h.r.fr = w.s ∧ w.y ≤ h.d ∧ v = ⟨h.r.to, h.z + 3, w.n + 1⟩)
    (hall : ∀ h ∈ H, h.r.fr = w.s → w.y ≤ h.d → (⟨h.r.to, h.z + 3, w.n + 1⟩ : Vw) ∈ ws') (hfw : ∀ st, fw' st = if st = w.s then some w.n else fw st) : Srch H s y to ws' fw' := by
  have HO : ∀ b, Cov H to ws' w.s w.y w.n b := cov_out hne fun h h1 h2 h3 => ⟨_, hall h h1 h2 h3, rfl, rfl, rfl⟩
  have hup : ∀ v ∈ ws', w.y ≤ v.y := fun v hv => by
    rcases hnew v hv with h | ⟨h, h1, h2, h3, rfl⟩
    · rcases T.2 v h with h | h <;> omega
    · have := F h h1
      show w.y ≤ h.z + 3
      omega
  refine ⟨fun v hv => ?_, Cov.step hin (HO false) S.cov, fun st n hn => ?_⟩
  · rcases hnew v hv with h | ⟨h, h1, h2, h3, rfl⟩
    · exact S.real v h
    · obtain ⟨p, p1, p2, p3, p4, p5⟩ := S.real w T.1
      refine ⟨p ++ [h], (isWay_snoc H s y p h).2 ⟨p1, h1, by rw [p2]; exact h2, by rw [p3]; exact h3⟩, ?_, ?_, ?_, ?_⟩
      · rw [endS_append]; rfl
      · rw [endY_append]; rfl
      · rw [List.length_append, p4]; rfl
      · show w.n + 1 ≤ 6
        omega
  · rw [hfw] at hn
    by_cases e : st = w.s
    · rw [if_pos e] at hn
      cases hn
      subst e
      exact ⟨w.y, HO true, hup⟩
    · rw [if_neg e] at hn
      obtain ⟨y0, c, hy⟩ := S.met st n hn
      refine ⟨y0, Cov.step hin (HO false) c, fun v hv => ?_⟩
      have h1 := hy w T.1
      have h2 := hup v hv
      omega

/-- The way that was taken is left. -/
theorem Srch.leave {H : List Hp} {s y to : Int} {ws ws' : List Vw} {fw : Int → Option Nat} {w : Vw} (S : Srch H s y to ws fw) (T : Top ws w) (hne : w.s ≠ to)
    (hin : ∀ v ∈ ws, v = w ∨ v ∈ ws') (hsub : ∀ v ∈ ws', v ∈ ws) (hwhy : w.n = 6 ∨ ∃ n, fw w.s = some n ∧ n ≤ w.n) : Srch H s y to ws' fw := by
  have W : Cov H to ws' w.s w.y w.n false := by
    rcases hwhy with h | ⟨n, h1, h2⟩
    · exact cov_six hne (by omega) false
    · obtain ⟨y0, c, hy⟩ := S.met _ _ h1
      exact cov_met hin hne (hy w T.1) h2 c
  exact ⟨fun v hv => S.real v (hsub v hv), Cov.step hin W S.cov, fun st n hn => by
    obtain ⟨y0, c, hy⟩ := S.met st n hn
    exact ⟨y0, Cov.step hin W c, fun v hv => hy v (hsub v hv)⟩⟩

/-- The first way that is taken at the end is ready there no later than any journey, and of these with no more rides. -/
theorem Srch.best {H : List Hp} {s y to : Int} {ws : List Vw} {fw : Int → Option Nat} {w : Vw} (F : Fwd H) (hst : s ≠ to) (S : Srch H s y to ws fw) (T : Top ws w) (he : w.s = to) :
    (∃ p, isTrip H s y to p ∧ endY y p = w.y ∧ p.length = w.n) ∧ ∀ q, isTrip H s y to q → w.y < endY y q ∨ (w.y = endY y q ∧ w.n ≤ q.length) := by
  constructor
  · obtain ⟨p, p1, p2, p3, p4, p5⟩ := S.real w T.1
    refine ⟨p, ⟨p1, ?_, by omega, by rw [p2]; exact he⟩, p3, p4⟩
    cases p with
    | nil => exact absurd (p2.trans he) hst
    | cons a p => simp
  · intro q hq
    obtain ⟨q1, q2, v, rfl, hv, h1, h2, h3, -⟩ := S.cov q hq.1 (by have := hq.2.2.1; omega) hq.2.2.2
    have hw := hq.1
    rw [isWay_append] at hw
    obtain ⟨u1, u2⟩ := endY_up F hw.2
    rw [endY_append]
    have ht := T.2 v hv
    by_cases e : q2 = []
    · subst e
      rw [List.append_nil]
      show w.y < endY y q1 ∨ (w.y = endY y q1 ∧ _)
      omega
    · have := u2 e
      left
      omega

/-- Where no way is left there is no journey. -/
theorem Srch.none {H : List Hp} {s y to : Int} {fw : Int → Option Nat} (S : Srch H s y to [] fw) : ∀ q, ¬ isTrip H s y to q := by
  intro q hq
  obtain ⟨q1, q2, v, -, hv, -⟩ := S.cov q hq.1 (by have := hq.2.2.1; omega) hq.2.2.2
  cases hv

end Rd
end Go.Proofs.Ytfoccmhmgdengaa
