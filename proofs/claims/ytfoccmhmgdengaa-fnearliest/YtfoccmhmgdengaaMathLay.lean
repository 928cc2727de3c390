/- The mathematics of the model's search: for each station and hour the way whose rides come first, a ride more each time. -/
import Derived.Test.YtfoccmhmgdengaaMathEar
namespace Go.Proofs.Ytfoccmhmgdengaa
namespace Rd
set_option linter.unusedSimpArgs false
set_option linter.unusedVariables false

/-- A way, the station that it leads to, and when it arrives. -/
structure Wy where
  p : List Hp
  s : Int
  z : Int

/-- A way put into a list by its station and hour: of those alike that stays whose rides come first. -/
def keep : List Wy → Wy → List Wy
  | [], w => [w]
  | v :: l, w => if v.s = w.s ∧ v.z = w.z then (if less (ridesOf w.p) (ridesOf v.p) = true then w else v) :: l else v :: keep l w

theorem keep_mem {l : List Wy} {w x : Wy} (h : x ∈ keep l w) : x = w ∨ x ∈ l := by
  induction l with
  | nil =>
    simp [keep] at h
    exact Or.inl h
  | cons v l ih =>
    unfold keep at h
    by_cases hk : v.s = w.s ∧ v.z = w.z
    · rw [if_pos hk] at h
      rcases List.mem_cons.1 h with h | h
      · by_cases hl : less (ridesOf w.p) (ridesOf v.p) = true
        · rw [if_pos hl] at h; exact Or.inl h
        · rw [if_neg hl] at h; exact Or.inr (by rw [h]; exact List.mem_cons_self)
      · exact Or.inr (List.mem_cons_of_mem _ h)
    · rw [if_neg hk] at h
      rcases List.mem_cons.1 h with h | h
      · exact Or.inr (by rw [h]; exact List.mem_cons_self)
      · rcases ih h with h | h
        · exact Or.inl h
        · exact Or.inr (List.mem_cons_of_mem _ h)

theorem keep_new (l : List Wy) (w : Wy) : ∃ x, x ∈ keep l w ∧ x.s = w.s ∧ x.z = w.z ∧ less (ridesOf w.p) (ridesOf x.p) = false := by
  induction l with
  | nil => exact ⟨w, by simp [keep], rfl, rfl, less_irrefl _⟩
  | cons v l ih =>
    unfold keep
    by_cases hk : v.s = w.s ∧ v.z = w.z
    · rw [if_pos hk]
      by_cases hl : less (ridesOf w.p) (ridesOf v.p) = true
      · rw [if_pos hl]
        exact ⟨w, List.mem_cons_self, rfl, rfl, less_irrefl _⟩
      · rw [if_neg hl]
        exact ⟨v, List.mem_cons_self, hk.1, hk.2, by simpa using hl⟩
    · rw [if_neg hk]
      obtain ⟨x, h1, h2⟩ := ih
      exact ⟨x, List.mem_cons_of_mem _ h1, h2⟩

theorem keep_old {l : List Wy} {v : Wy} (h : v ∈ l) (w : Wy) : ∃ x, x ∈ keep l w ∧ x.s = v.s ∧ x.z = v.z ∧ ∀ c, less c (ridesOf v.p) = false → less c (ridesOf x.p) = false := by
  induction l with
  | nil => cases h
  | cons u l ih =>
    unfold keep
    by_cases hk : u.s = w.s ∧ u.z = w.z
    · rw [if_pos hk]
      rcases List.mem_cons.1 h with rfl | h
      · by_cases hl : less (ridesOf w.p) (ridesOf v.p) = true
        · rw [if_pos hl]
          refine ⟨w, List.mem_cons_self, hk.1.symm, hk.2.symm, fun c hc => ?_⟩
          cases h9 : less c (ridesOf w.p) with
          | false => rfl
          | true =>
            have := less_trans h9 hl
            rw [hc] at this
            exact this.symm
        · rw [if_neg hl]
          exact ⟨v, List.mem_cons_self, rfl, rfl, fun c hc => hc⟩
      · exact ⟨v, List.mem_cons_of_mem _ h, rfl, rfl, fun c hc => hc⟩
    · rw [if_neg hk]
      rcases List.mem_cons.1 h with rfl | h
      · exact ⟨v, List.mem_cons_self, rfl, rfl, fun c hc => hc⟩
      · obtain ⟨x, h1, h2⟩ := ih h
        exact ⟨x, List.mem_cons_of_mem _ h1, h2⟩

/-- Many ways put into a list, one behind the other. -/
def keepAll (l : List Wy) (ws : List Wy) : List Wy := ws.foldl keep l

theorem keepAll_mem {l ws : List Wy} {x : Wy} (h : x ∈ keepAll l ws) : x ∈ l ∨ x ∈ ws := by
  induction ws generalizing l with
  | nil => exact Or.inl h
  | cons w ws ih =>
    rcases ih (l := keep l w) h with h | h
    · rcases keep_mem h with h | h
      · exact Or.inr (by rw [h]; exact List.mem_cons_self)
      · exact Or.inl h
    · exact Or.inr (List.mem_cons_of_mem _ h)

theorem keepAll_old {l : List Wy} {v : Wy} (h : v ∈ l) (ws : List Wy) : ∃ x, x ∈ keepAll l ws ∧ x.s = v.s ∧ x.z = v.z ∧ ∀ c, less c (ridesOf v.p) = false → less c (ridesOf x.p) = false := by
  induction ws generalizing l v with
  | nil => exact ⟨v, h, rfl, rfl, fun c hc => hc⟩
  | cons w ws ih =>
    obtain ⟨x, h1, h2, h3, h4⟩ := keep_old h w
    obtain ⟨x', k1, k2, k3, k4⟩ := ih h1
    exact ⟨x', k1, k2.trans h2, k3.trans h3, fun c hc => k4 c (h4 c hc)⟩

theorem keepAll_new {ws : List Wy} {w : Wy} (h : w ∈ ws) (l : List Wy) : ∃ x, x ∈ keepAll l ws ∧ x.s = w.s ∧ x.z = w.z ∧ less (ridesOf w.p) (ridesOf x.p) = false := by
  induction ws generalizing l with
  | nil => cases h
  | cons u ws ih =>
    rcases List.mem_cons.1 h with rfl | h
    · obtain ⟨x, h1, h2, h3, h4⟩ := keep_new l w
      obtain ⟨x', k1, k2, k3, k4⟩ := keepAll_old h1 ws
      exact ⟨x', k1, k2.trans h2, k3.trans h3, k4 _ h4⟩
    · exact ih h (keep l u)

/-- The ways of n hops from a station and an hour on, for each end the first of them. -/
def Layer (H : List Hp) (s y : Int) (n : Nat) (ws : List Wy) : Prop :=
  (∀ w, w ∈ ws → isWay H s y w.p ∧ w.p.length = n ∧ endS s w.p = w.s ∧ (0 < n → endY y w.p = w.z + 3)) ∧
  ∀ q, isWay H s y q → q.length = n → ∃ w, w ∈ ws ∧ w.s = endS s q ∧ (0 < n → w.z + 3 = endY y q) ∧ less (ridesOf q) (ridesOf w.p) = false

/-- The ways with one hop more behind a way: 'more' tells the hops with which it can go on. -/
def nextOf (more : Wy → List Hp) (ws : List Wy) : List Wy := ws.flatMap fun w => (more w).map fun h => ⟨w.p ++ [h], h.r.to, h.z⟩

/-- A layer, and the next one. -/
theorem layer_next {H : List Hp} {s y : Int} {n : Nat} {ws : List Wy} (L : Layer H s y n ws) (more : Wy → List Hp)
    (hm : ∀ w, w ∈ ws → ∀ h, h ∈ more w ↔ h ∈ H ∧ h.r.fr = w.s ∧ endY y w.p ≤ h.d) : Layer H s y (n + 1) (keepAll [] (nextOf more ws)) := by
  refine ⟨fun x hx => ?_, fun q hq hl => ?_⟩
  · rcases keepAll_mem hx with hx | hx
    · cases hx
    · unfold nextOf at hx
      obtain ⟨w, hw, hx⟩ := List.mem_flatMap.1 hx
      obtain ⟨h, hh, rfl⟩ := List.mem_map.1 hx
      obtain ⟨a1, a2, a3, a4⟩ := L.1 w hw
      obtain ⟨b1, b2, b3⟩ := (hm w hw h).1 hh
      refine ⟨(isWay_snoc H s y w.p h).2 ⟨a1, b1, by rw [a3]; exact b2, b3⟩, by simp [a2], by rw [endS_append]; rfl, fun _ => by rw [endY_append]; rfl⟩
  · obtain ⟨q0, h, rfl⟩ : ∃ q0 h, q = q0 ++ [h] := ⟨q.dropLast, q.getLast (by intro e; rw [e] at hl; simp at hl), (List.dropLast_concat_getLast _).symm⟩
    obtain ⟨c1, c2, c3, c4⟩ := (isWay_snoc H s y q0 h).1 hq
    have hl0 : q0.length = n := by simpa using hl
    obtain ⟨w, hw, d1, d2, d3⟩ := L.2 q0 c1 hl0
    obtain ⟨a1, a2, a3, a4⟩ := L.1 w hw
    have hy : endY y w.p = endY y q0 := by
      by_cases h0 : 0 < n
      · rw [a4 h0, d2 h0]
      · have e1 : w.p = [] := List.eq_nil_of_length_eq_zero (by omega)
        have e2 : q0 = [] := List.eq_nil_of_length_eq_zero (by omega)
        rw [e1, e2]
    have hmem : (⟨w.p ++ [h], h.r.to, h.z⟩ : Wy) ∈ nextOf more ws := by
      unfold nextOf
      exact List.mem_flatMap.2 ⟨w, hw, List.mem_map.2 ⟨h, (hm w hw h).2 ⟨c2, by rw [c3, d1], by rw [hy]; exact c4⟩, rfl⟩⟩
    obtain ⟨x, k1, k2, k3, k4⟩ := keepAll_new hmem []
    refine ⟨x, k1, by rw [k2, endS_append]; rfl, fun _ => by rw [k3, endY_append]; rfl, ?_⟩
    cases h9 : less (ridesOf (q0 ++ [h])) (ridesOf x.p) with
    | false => rfl
    | true =>
      exfalso
      rcases less_tri (ridesOf q0) (ridesOf w.p) (by rw [ridesOf_length, ridesOf_length, hl0, a2]) with t | t | t
      · rw [d3] at t; cases t
      · rw [ridesOf_append, ← ridesOf_append, ridesOf_append, t, ← ridesOf_append] at h9
        rw [k4] at h9
        cases h9
      · have := swap_less (H := H) (s := s) (y := y) (p := q0) (p' := w.p) (q := [h]) (by rw [hl0, a2]) t
        have := less_trans this h9
        rw [k4] at this
        cases this

/-- The first layer: no hop. -/
theorem layer_0 (H : List Hp) (s y z : Int) : Layer H s y 0 [⟨[], s, z⟩] := by
  refine ⟨fun w hw => ?_, fun q hq hl => ?_⟩
  · obtain rfl := List.mem_singleton.1 hw
    exact ⟨trivial, rfl, rfl, fun h => by omega⟩
  · obtain rfl : q = [] := List.eq_nil_of_length_eq_zero hl
    exact ⟨_, List.mem_singleton.2 rfl, rfl, fun h => by omega, less_irrefl _⟩

end Rd
end Go.Proofs.Ytfoccmhmgdengaa
