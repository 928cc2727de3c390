/- The mathematics of the model's search: what is picked of its layers is the best. -/
import Derived.Test.YtfoccmhmgdengaaMathLay
namespace Go.Proofs.Ytfoccmhmgdengaa
namespace Rd
set_option linter.unusedSimpArgs false
set_option linter.unusedVariables false

/-- No two ways of a list have one end. -/
def Uniq (ws : List Wy) : Prop := ws.Pairwise fun a b => ¬ (a.s = b.s ∧ a.z = b.z)

theorem keep_uniq {l : List Wy} (h : Uniq l) (w : Wy) : Uniq (keep l w) := by
  unfold Uniq at h ⊢
  induction l with
  | nil => simp [keep]
  | cons v l ih =>
    rw [List.pairwise_cons] at h
    unfold keep
    by_cases hk : v.s = w.s ∧ v.z = w.z
    · rw [if_pos hk, List.pairwise_cons]
      refine ⟨fun x hx => ?_, h.2⟩
      by_cases hl : less (ridesOf w.p) (ridesOf v.p) = true
      · rw [if_pos hl, ← hk.1, ← hk.2]
        exact h.1 x hx
      · rw [if_neg hl]
        exact h.1 x hx
    · rw [if_neg hk, List.pairwise_cons]
      refine ⟨fun x hx => ?_, ih h.2⟩
      rcases keep_mem hx with rfl | hx
      · exact hk
      · exact h.1 x hx

theorem keepAll_uniq {l : List Wy} (h : Uniq l) (ws : List Wy) : Uniq (keepAll l ws) := by
  induction ws generalizing l with
  | nil => exact h
  | cons w ws ih => exact ih (keep_uniq h w)

theorem uniq_eq {ws : List Wy} (h : Uniq ws) {a b : Wy} (ha : a ∈ ws) (hb : b ∈ ws) (e1 : a.s = b.s) (e2 : a.z = b.z) : a = b := by
  unfold Uniq at h
  induction ws with
  | nil => cases ha
  | cons v ws ih =>
    rw [List.pairwise_cons] at h
    rcases List.mem_cons.1 ha with ea | ha'
    · rcases List.mem_cons.1 hb with eb | hb'
      · rw [ea, eb]
      · rw [ea] at e1 e2
        exact absurd ⟨e1, e2⟩ (h.1 b hb')
    · rcases List.mem_cons.1 hb with eb | hb'
      · rw [eb] at e1 e2
        exact absurd ⟨e1.symm, e2.symm⟩ (h.1 a ha')
      · exact ih h.2 ha' hb'

/-- A way that ends there is taken where none was, or where it arrives sooner. -/
def better (to : Int) (b : Option Wy) (w : Wy) : Option Wy := if w.s = to ∧ (∀ v, b = some v → w.z < v.z) then some w else b

open Classical in
theorem better_fold (to : Int) (ws : List Wy) (b : Option Wy) :
    (ws.foldl (better to) b = b ∧ ∀ w, w ∈ ws → w.s = to → ∃ v, b = some v ∧ v.z ≤ w.z) ∨
    ∃ w, w ∈ ws ∧ ws.foldl (better to) b = some w ∧ w.s = to ∧ (∀ v, b = some v → w.z < v.z) ∧ ∀ x, x ∈ ws → x.s = to → w.z ≤ x.z := by
  induction ws generalizing b with
  | nil => exact Or.inl ⟨rfl, fun w hw => by cases hw⟩
  | cons u ws ih =>
    rw [List.foldl_cons]
    by_cases hu : u.s = to ∧ (∀ v, b = some v → u.z < v.z)
    · have e : better to b u = some u := by unfold better; rw [if_pos hu]
      rw [e]
      rcases ih (some u) with ⟨h1, h2⟩ | ⟨w, h1, h2, h3, h4, h5⟩
      · refine Or.inr ⟨u, List.mem_cons_self, h1, hu.1, hu.2, fun x hx hs => ?_⟩
        rcases List.mem_cons.1 hx with rfl | hx
        · exact Int.le_refl _
        · obtain ⟨v, hv, hz⟩ := h2 x hx hs
          simp only [Option.some.injEq] at hv
          subst hv
          exact hz
      · have := h4 u rfl
        refine Or.inr ⟨w, List.mem_cons_of_mem _ h1, h2, h3, fun v hv => ?_, fun x hx hs => ?_⟩
        · have := hu.2 v hv
          omega
        · rcases List.mem_cons.1 hx with rfl | hx
          · omega
          · exact h5 x hx hs
    · have e : better to b u = b := by unfold better; rw [if_neg hu]
      rw [e]
      have hu2 : u.s = to → ∃ v, b = some v ∧ v.z ≤ u.z := by
        intro hs
        apply Classical.byContradiction
        intro hn
        exact hu ⟨hs, fun v hv => Int.lt_of_not_ge fun hz => hn ⟨v, hv, hz⟩⟩
      rcases ih b with ⟨h1, h2⟩ | ⟨w, h1, h2, h3, h4, h5⟩
      · refine Or.inl ⟨h1, fun x hx hs => ?_⟩
        rcases List.mem_cons.1 hx with rfl | hx
        · exact hu2 hs
        · exact h2 x hx hs
      · refine Or.inr ⟨w, List.mem_cons_of_mem _ h1, h2, h3, h4, fun x hx hs => ?_⟩
        rcases List.mem_cons.1 hx with rfl | hx
        · obtain ⟨v, hv, hz⟩ := hu2 hs
          have := h4 v hv
          omega
        · exact h5 x hx hs

/-- What was picked of the layers up to n is the best of the journeys of at most n hops. -/
def Picked (H : List Hp) (s y to : Int) (n : Nat) (b : Option Wy) : Prop :=
  (b = none → ∀ q, isWay H s y q → 1 ≤ q.length → q.length ≤ n → endS s q ≠ to) ∧
  ∀ v, b = some v → isWay H s y v.p ∧ 1 ≤ v.p.length ∧ v.p.length ≤ n ∧ endS s v.p = to ∧ endY y v.p = v.z + 3 ∧
    ∀ q, isWay H s y q → 1 ≤ q.length → q.length ≤ n → endS s q = to → endY y v.p < endY y q ∨ (endY y v.p = endY y q ∧ (v.p.length < q.length ∨ (v.p.length = q.length ∧ less (ridesOf q) (ridesOf v.p) = false)))

theorem picked_0 (H : List Hp) (s y to : Int) : Picked H s y to 0 none :=
  ⟨fun _ q _ h1 h2 => (by omega), fun v hv => (by cases hv)⟩

theorem picked_next {H : List Hp} {s y to : Int} {n : Nat} {b : Option Wy} {ws : List Wy} (P : Picked H s y to n b) (L : Layer H s y (n + 1) ws) (U : Uniq ws) : Picked H s y to (n + 1) (ws.foldl (better to) b) := by
  rcases better_fold to ws b with ⟨h1, h2⟩ | ⟨w, h1, h2, h3, h4, h5⟩
  · rw [h1]
    refine ⟨fun hb q hq q1 qn qe => ?_, fun v hv => ?_⟩
    · by_cases hl : q.length ≤ n
      · exact P.1 hb q hq q1 hl qe
      · obtain ⟨w, hw, d1, -, -⟩ := L.2 q hq (by omega)
        obtain ⟨v, hv, -⟩ := h2 w hw (by rw [d1, qe])
        rw [hb] at hv
        cases hv
    · obtain ⟨a1, a2, a3, a4, a5, a6⟩ := P.2 v hv
      refine ⟨a1, a2, by omega, a4, a5, fun q hq q1 qn qe => ?_⟩
      by_cases hl : q.length ≤ n
      · exact a6 q hq q1 hl qe
      · obtain ⟨w, hw, d1, d2, d3⟩ := L.2 q hq (by omega)
        obtain ⟨v', hv', hz⟩ := h2 w hw (by rw [d1, qe])
        rw [hv] at hv'
        simp only [Option.some.injEq] at hv'
        subst hv'
        have := d2 (by omega)
        by_cases he : endY y v.p = endY y q
        · exact Or.inr ⟨he, Or.inl (by omega)⟩
        · exact Or.inl (by omega)
  · rw [h2]
    obtain ⟨a1, a2, a3, a4⟩ := L.1 w h1
    have a5 := a4 (by omega)
    refine ⟨fun hb => (by cases hb), fun v hv => ?_⟩
    simp only [Option.some.injEq] at hv
    subst hv
    refine ⟨a1, by omega, by omega, by rw [a3, h3], a5, fun q hq q1 qn qe => ?_⟩
    by_cases hl : q.length ≤ n
    · cases hb : b with
      | none => exact absurd qe (P.1 hb q hq q1 hl)
      | some v =>
        obtain ⟨-, -, -, -, b5, b6⟩ := P.2 v hb
        have hlt := h4 v hb
        have := b6 q hq q1 hl qe
        exact Or.inl (by omega)
    · obtain ⟨x, hx, d1, d2, d3⟩ := L.2 q hq (by omega)
      have hz := h5 x hx (by rw [d1, qe])
      have e1 := d2 (by omega)
      by_cases he : endY y w.p = endY y q
      · have hxw : w = x := uniq_eq U h1 hx (by rw [h3, d1, qe]) (by omega)
        subst hxw
        exact Or.inr ⟨he, Or.inr ⟨by omega, d3⟩⟩
      · exact Or.inl (by omega)

/-- Behind six layers: the best journey, or there is none. -/
theorem picked_best {H : List Hp} {s y to : Int} {b : Option Wy} (P : Picked H s y to 6 b) : (b = none → ∀ q, ¬ isTrip H s y to q) ∧ ∀ v, b = some v → isBest H s y to v.p ∧ endY y v.p = v.z + 3 := by
  refine ⟨fun hb q hq => P.1 hb q hq.1 hq.2.1 hq.2.2.1 hq.2.2.2, fun v hv => ?_⟩
  obtain ⟨a1, a2, a3, a4, a5, a6⟩ := P.2 v hv
  exact ⟨⟨⟨a1, a2, a3, a4⟩, fun q hq => a6 q hq.1 hq.2.1 hq.2.2.1 hq.2.2.2⟩, a5⟩

end Rd
end Go.Proofs.Ytfoccmhmgdengaa
