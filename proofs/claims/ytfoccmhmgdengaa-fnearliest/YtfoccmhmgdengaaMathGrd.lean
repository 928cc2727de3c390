/- The mathematics of the program's rides: one by one the first that still comes in time, which makes the first of all journeys that are as good. -/
import Derived.Test.YtfoccmhmgdengaaMathBst
namespace Go.Proofs.Ytfoccmhmgdengaa
namespace Rd
set_option linter.unusedSimpArgs false
set_option linter.unusedVariables false

/-- Rides from one station, held against one another. -/
def aheadR (a b : Ri) : Bool := decide (a.tr < b.tr) || (decide (a.tr = b.tr) && (decide (a.dy < b.dy) || (decide (a.dy = b.dy) && decide (a.to < b.to))))

theorem aheadR_iff (a b : Ri) : aheadR a b = true ↔ a.tr < b.tr ∨ (a.tr = b.tr ∧ (a.dy < b.dy ∨ (a.dy = b.dy ∧ a.to < b.to))) := by simp [aheadR]

theorem aheadR_no (a b : Ri) : aheadR a b = false ↔ ¬ (a.tr < b.tr ∨ (a.tr = b.tr ∧ (a.dy < b.dy ∨ (a.dy = b.dy ∧ a.to < b.to)))) := by rw [← aheadR_iff, Bool.not_eq_true]

theorem less_one {a b : Ri} (h : a.fr = b.fr) : less [a] [b] = aheadR a b := by
  unfold less aheadR
  simp [flat, lexlt, h]

/-- From a station at an hour one is at the end in time with so many rides. -/
def Tim (H : List Hp) (tt z : Int) (k : Nat) (st y : Int) : Prop := ∃ q, isWay H st y q ∧ q.length = k ∧ endS st q = tt ∧ endY y q ≤ z

theorem tim_zero (H : List Hp) (tt z st y : Int) : Tim H tt z 0 st y ↔ st = tt ∧ y ≤ z := by
  constructor
  · rintro ⟨q, h1, h2, h3, h4⟩
    obtain rfl := List.eq_nil_of_length_eq_zero h2
    exact ⟨h3, h4⟩
  · rintro ⟨h1, h2⟩
    exact ⟨[], trivial, rfl, h1, h2⟩

theorem tim_next (H : List Hp) (tt z : Int) (k : Nat) (st y : Int) : Tim H tt z (k + 1) st y ↔ ∃ h ∈ H, h.r.fr = st ∧ y ≤ h.d ∧ Tim H tt z k h.r.to (h.z + 3) := by
  constructor
  · rintro ⟨q, h1, h2, h3, h4⟩
    cases q with
    | nil => simp at h2
    | cons h q => exact ⟨h, h1.1, h1.2.1, h1.2.2.1, q, h1.2.2.2, by simpa using h2, h3, h4⟩
  · rintro ⟨h, h1, h2, h3, q, g1, g2, g3, g4⟩
    exact ⟨h :: q, ⟨h1, h2, h3, g1⟩, by simp [g2], g3, g4⟩

/-- What is told by how many rides are left: until when one has to be ready. -/
def Lat (H : List Hp) (tt z : Int) (k : Nat) (L : Int → Option Int) : Prop := ∀ st y, Tim H tt z k st y ↔ ∃ t, L st = some t ∧ y ≤ t

theorem lat_zero (H : List Hp) (tt z : Int) {L : Int → Option Int} (hL : ∀ st, L st = if st = tt then some z else none) : Lat H tt z 0 L := by
  intro st y
  rw [tim_zero, hL]
  constructor
  · rintro ⟨rfl, h⟩
    exact ⟨z, by simp, h⟩
  · rintro ⟨t, h1, h2⟩
    split at h1
    · cases h1
      exact ⟨by assumption, h2⟩
    · cases h1

theorem lat_next {H : List Hp} {tt z : Int} {k : Nat} {L L' : Int → Option Int} (h0 : Lat H tt z k L)
    (h1 : ∀ h ∈ H, (∃ t, L h.r.to = some t ∧ h.z + 3 ≤ t) → ∃ t, L' h.r.fr = some t ∧ h.d ≤ t)
    (h2 : ∀ st t, L' st = some t → ∃ h ∈ H, h.r.fr = st ∧ h.d = t ∧ ∃ u, L h.r.to = some u ∧ h.z + 3 ≤ u) : Lat H tt z (k + 1) L' := by
  intro st y
  rw [tim_next]
  constructor
  · rintro ⟨h, a, rfl, b, c⟩
    obtain ⟨t, e, l⟩ := h1 h a ((h0 _ _).1 c)
    exact ⟨t, e, by omega⟩
  · rintro ⟨t, e, l⟩
    obtain ⟨h, a, b, rfl, c⟩ := h2 st t e
    exact ⟨h, a, b, l, (h0 _ _).2 c⟩

/-- Ride by ride the first that is in time. -/
def Grd (H : List Hp) (tt z : Int) : Int → Int → List Hp → Prop
  | st, y, [] => st = tt ∧ y ≤ z
  | st, y, h :: p => (h ∈ H ∧ h.r.fr = st ∧ y ≤ h.d ∧ Tim H tt z p.length h.r.to (h.z + 3)) ∧ (∀ g ∈ H, g.r.fr = st → y ≤ g.d → Tim H tt z p.length g.r.to (g.z + 3) → aheadR g.r h.r = false) ∧ Grd H tt z h.r.to (h.z + 3) p

theorem grd_way {H : List Hp} {tt z : Int} : ∀ {p : List Hp} {st y : Int}, Grd H tt z st y p → isWay H st y p ∧ endS st p = tt ∧ endY y p ≤ z
  | [], st, y, h => ⟨trivial, h⟩
  | a :: p, st, y, h => by
    obtain ⟨h1, h2⟩ := grd_way h.2.2
    exact ⟨⟨h.1.1, h.1.2.1, h.1.2.2.1, h1⟩, h2⟩

/-- It is the first of all that are in time with as many rides. -/
theorem grd_least {H : List Hp} {tt z : Int} (one : ∀ g ∈ H, ∀ h ∈ H, g.r = h.r → g = h) : ∀ {p : List Hp} {st y : Int}, Grd H tt z st y p → ∀ {q : List Hp}, isWay H st y q → q.length = p.length → endS st q = tt → endY y q ≤ z → less (ridesOf q) (ridesOf p) = false
  | [], st, y, _, q, _, hl, _, _ => by
    obtain rfl := List.eq_nil_of_length_eq_zero hl
    rfl
  | a :: p, st, y, h, q, hq, hl, he, hz => by
    cases q with
    | nil => simp at hl
    | cons g q =>
      have hl' : q.length = p.length := by simpa using hl
      have hT : Tim H tt z p.length g.r.to (g.z + 3) := ⟨q, hq.2.2.2, hl', he, hz⟩
      have hA := h.2.1 g hq.1 hq.2.1 hq.2.2.1 hT
      rw [← less_one (by rw [hq.2.1, h.1.2.1])] at hA
      cases hx : less (ridesOf (g :: q)) (ridesOf (a :: p)) with
      | false => rfl
      | true =>
        have h2 := (less_append [g.r] [a.r] (ridesOf q) (ridesOf p) rfl).1 hx
        rcases h2 with h2 | ⟨h2, h3⟩
        · rw [hA] at h2; cases h2
        · have e : g = a := one g hq.1 a h.1.1 (by simpa using h2)
          subst e
          rw [grd_least one h.2.2 hq.2.2.2 hl' he hz] at h3
          cases h3

/-- One is put ahead: the first of some hops. -/
def fst1 (b : Option Hp) (h : Hp) : Option Hp := match b with
  | none => some h
  | some f => if aheadR h.r f.r = true then some h else some f

theorem fst_from (l : List Hp) : ∀ f : Hp, ∃ h, l.foldl fst1 (some f) = some h ∧ (h = f ∨ h ∈ l) ∧ aheadR f.r h.r = false ∧ ∀ g ∈ l, aheadR g.r h.r = false := by
  induction l with
  | nil => exact fun f => ⟨f, rfl, Or.inl rfl, by rw [aheadR_no]; omega, fun g hg => by cases hg⟩
  | cons a l ih =>
    intro f
    rw [List.foldl_cons]
    by_cases c : aheadR a.r f.r = true
    · obtain ⟨h, h1, h2, h3, h4⟩ := ih a
      refine ⟨h, by rw [show fst1 (some f) a = some a from if_pos c]; exact h1, Or.inr ?_, ?_, fun g hg => ?_⟩
      · rcases h2 with rfl | h2
        · exact List.mem_cons_self
        · exact List.mem_cons_of_mem _ h2
      · rw [aheadR_iff] at c
        rw [aheadR_no] at h3 ⊢
        omega
      · rcases List.mem_cons.1 hg with rfl | hg
        · exact h3
        · exact h4 g hg
    · obtain ⟨h, h1, h2, h3, h4⟩ := ih f
      refine ⟨h, by rw [show fst1 (some f) a = some f from if_neg c]; exact h1, ?_, h3, fun g hg => ?_⟩
      · rcases h2 with rfl | h2
        · exact Or.inl rfl
        · exact Or.inr (List.mem_cons_of_mem _ h2)
      · rcases List.mem_cons.1 hg with rfl | hg
        · rw [Bool.not_eq_true, aheadR_no] at c
          rw [aheadR_no] at h3 ⊢
          omega
        · exact h4 g hg

theorem fst_fold {l : List Hp} (hl : l ≠ []) : ∃ h, l.foldl fst1 none = some h ∧ h ∈ l ∧ ∀ g ∈ l, aheadR g.r h.r = false := by
  cases l with
  | nil => exact absurd rfl hl
  | cons a l =>
    obtain ⟨h, h1, h2, h3, h4⟩ := fst_from l a
    refine ⟨h, h1, ?_, fun g hg => ?_⟩
    · rcases h2 with rfl | h2
      · exact List.mem_cons_self
      · exact List.mem_cons_of_mem _ h2
    · rcases List.mem_cons.1 hg with rfl | hg
      · exact h3
      · exact h4 g hg

/-- What the search found and the rides that were chosen are the best journey. -/
theorem grd_best {H : List Hp} {s y tt z : Int} {n : Nat} {p : List Hp} (one : ∀ g ∈ H, ∀ h ∈ H, g.r = h.r → g = h)
    (B : ∀ q, isTrip H s y tt q → z < endY y q ∨ (z = endY y q ∧ n ≤ q.length)) (h1 : 1 ≤ n) (h6 : n ≤ 6) (hp : p.length = n) (G : Grd H tt z s y p) : isBest H s y tt p ∧ endY y p = z := by
  obtain ⟨g1, g2, g3⟩ := grd_way G
  have T : isTrip H s y tt p := ⟨g1, by omega, by omega, g2⟩
  have e : endY y p = z := by
    have := B p T
    omega
  refine ⟨⟨T, fun q hq => ?_⟩, e⟩
  rcases B q hq with h | ⟨h, l⟩
  · exact Or.inl (by omega)
  · refine Or.inr ⟨by omega, ?_⟩
    by_cases hl : q.length = p.length
    · exact Or.inr ⟨hl.symm, grd_least one G hq.1 hl hq.2.2.2 (by omega)⟩
    · exact Or.inl (by omega)

/-- One step of the choice. -/
theorem grd_step {H : List Hp} {tt z : Int} {k : Nat} {st y : Int} {L : Int → Option Int} (hL : Lat H tt z k L) (hT : Tim H tt z (k + 1) st y) (l : List Hp)
    (hl : ∀ h, h ∈ l ↔ h ∈ H ∧ h.r.fr = st ∧ y ≤ h.d ∧ ∃ t, L h.r.to = some t ∧ h.z + 3 ≤ t) :
    ∃ h, l.foldl fst1 none = some h ∧ (h ∈ H ∧ h.r.fr = st ∧ y ≤ h.d) ∧ Tim H tt z k h.r.to (h.z + 3) ∧ ∀ p, p.length = k → Grd H tt z h.r.to (h.z + 3) p → Grd H tt z st y (h :: p) := by
  obtain ⟨h0, a1, a2, a3, a4⟩ := (tim_next _ _ _ _ _ _).1 hT
  have hne : l ≠ [] := fun e => by
    have := (hl h0).2 ⟨a1, a2, a3, (hL _ _).1 a4⟩
    rw [e] at this
    cases this
  obtain ⟨h, e, m, f⟩ := fst_fold hne
  obtain ⟨m1, m2, m3, m4⟩ := (hl h).1 m
  have m5 := (hL _ _).2 m4
  refine ⟨h, e, ⟨m1, m2, m3⟩, m5, fun p hp G => ⟨⟨m1, m2, m3, by rw [hp]; exact m5⟩, fun g g1 g2 g3 g4 => ?_, G⟩⟩
  rw [hp] at g4
  exact f g ((hl g).2 ⟨g1, g2, g3, (hL _ _).1 g4⟩)

end Rd
end Go.Proofs.Ytfoccmhmgdengaa
