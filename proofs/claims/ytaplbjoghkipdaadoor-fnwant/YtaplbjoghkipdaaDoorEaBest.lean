/- The mathematics of the model's Earliest: what is picked of six layers, over ways as they lie. -/
import Derived.Test.YtaplbjoghkipdaaDoorEaCand
import Derived.Test.YtaplbjoghkipdaaDoorTnLines
namespace Go.Proofs.YtaplbjoghkipdaaDoor
namespace Rd
open Go.ChangeShapes Go.WideShapes Go.ChangeAt Go.RowKit
open Tn (Tr St idx dayBit z0 okB)
set_option linter.unusedSimpArgs false
set_option linter.unusedVariables false

theorem lines_ok {ts : List Tr} (h : Tn.linesB ts = true) : ts.length ≤ 40 ∧ ∀ t ∈ ts, okB t.h t.l = true := by
  unfold Tn.linesB at h
  rw [Bool.and_eq_true] at h
  refine ⟨of_decide_eq_true h.2, fun t ht => ?_⟩
  obtain ⟨i, hi, rfl⟩ := List.getElem_of_mem ht
  have h1 := h.1
  unfold Tn.linesFrom at h1
  rw [List.all_eq_true] at h1
  have h2 := h1 i (by simpa using hi)
  unfold Tn.lineB at h2
  rw [Tn.getT_at ts i hi] at h2
  simp only [Bool.and_eq_true] at h2
  first | exact h2.1 | exact h2.2

/-- Whether Earliest answers at all. -/
def earB (ts : List Tr) (fr to day mi : Int) : Bool := Tn.linesB ts && (!(fr == to) && (Tn.inB day 0 90000 && Tn.inB mi 0 1439))

/-- A way that ends there is taken where none was, or where it arrives sooner. -/
def betterP (to : Int) (b : Option Pw) (q : Pw) : Option Pw := if q.o.s = to ∧ (∀ v, b = some v → q.o.z < v.o.z) then some q else b

theorem betterP_o (to : Int) (b : Option Pw) (q : Pw) : (betterP to b q).map (·.o) = better to (b.map (·.o)) q.o := by
  unfold betterP better
  have e : (q.o.s = to ∧ (∀ v, b = some v → q.o.z < v.o.z)) ↔ (q.o.s = to ∧ (∀ v, b.map (·.o) = some v → q.o.z < v.z)) := by
    constructor
    · rintro ⟨h1, h2⟩
      refine ⟨h1, fun v hv => ?_⟩
      cases b with
      | none => cases hv
      | some p => simp only [Option.map_some, Option.some.injEq] at hv; rw [← hv]; exact h2 p rfl
    · rintro ⟨h1, h2⟩
      refine ⟨h1, fun v hv => ?_⟩
      rw [hv] at h2
      exact h2 v.o rfl
  by_cases h : q.o.s = to ∧ (∀ v, b = some v → q.o.z < v.o.z)
  · rw [if_pos h, if_pos (e.1 h)]; rfl
  · rw [if_neg h, if_neg (fun g => h (e.2 g))]

theorem foldP_o (to : Int) (ps : List Pw) (b : Option Pw) : (ps.foldl (betterP to) b).map (·.o) = (ps.map (·.o)).foldl (better to) (b.map (·.o)) := by
  induction ps generalizing b with
  | nil => rfl
  | cons p ps ih => rw [List.foldl_cons, ih, List.map_cons, List.foldl_cons, betterP_o]

theorem foldP_mem (to : Int) (ps : List Pw) (b : Option Pw) (q : Pw) (h : ps.foldl (betterP to) b = some q) : b = some q ∨ q ∈ ps := by
  induction ps generalizing b with
  | nil => exact Or.inl h
  | cons p ps ih =>
    rw [List.foldl_cons] at h
    rcases ih _ h with h | h
    · unfold betterP at h
      by_cases c : p.o.s = to ∧ (∀ v, b = some v → p.o.z < v.o.z)
      · rw [if_pos c] at h
        simp only [Option.some.injEq] at h
        exact Or.inr (by rw [h]; exact List.mem_cons_self)
      · rw [if_neg c] at h
        exact Or.inl h
    · exact Or.inr (List.mem_cons_of_mem _ h)

theorem fold_take (to : Int) (ps : List Pw) (b : Option Pw) (i : Nat) (h : i < ps.length) : (ps.take (i + 1)).foldl (betterP to) b = betterP to ((ps.take i).foldl (betterP to) b) ps[i] := by
  rw [List.take_succ_eq_append_getElem h, List.foldl_append]
  rfl

/-- The ways of a layer, as they lie, within bounds. -/
structure Lay (ts : List Tr) (day first fr : Int) (n : Nat) (ps : List Pw) : Prop where
  lay : Layer (allH ts day) fr first n (ps.map (·.o))
  uniq : Uniq (ps.map (·.o))
  len : ps.length ≤ 3200
  bd : ∀ p ∈ ps, p.o.p.length = n ∧ 0 ≤ p.o.z ∧ p.o.z ≤ 200000000 ∧ (p.o.p.length = 0 → p.r = .slice none 0 0)

theorem lay_0 (ts : List Tr) (day first fr : Int) : Lay ts day first fr 0 [⟨none, 0, ⟨[], fr, 0⟩⟩] :=
  ⟨layer_0 _ _ _ _, by unfold Uniq; simp, by simp, fun p hp => by obtain rfl := List.mem_singleton.1 hp; exact ⟨rfl, Int.le_refl _, by show (0 : Int) ≤ _; omega, fun _ => rfl⟩⟩

theorem Lay.next {ts : List Tr} {day first fr : Int} {n : Nat} {ps qs : List Pw} (h : Lay ts day first fr n ps) (hok : ∀ t ∈ ts, okB t.h t.l = true) (hn : ts.length ≤ 40) (hd : day ≤ 90000) (e : qs.map (·.o) = keepAll [] (nextOf (more ts day first) (ps.map (·.o)))) : Lay ts day first fr (n + 1) qs := by
  have hm : ∀ w, w ∈ ps.map (·.o) → ∀ x, x ∈ more ts day first w ↔ x ∈ allH ts day ∧ x.r.fr = w.s ∧ endY first w.p ≤ x.d := by
    intro w hw x
    rw [more_iff hok x]
    have ha : ahead first w = endY first w.p := by
      obtain ⟨-, h2, -, h4⟩ := h.lay.1 w hw
      unfold ahead
      by_cases h0 : w.p.length = 0
      · rw [if_pos h0, List.eq_nil_of_length_eq_zero h0]; rfl
      · rw [if_neg h0, h4 (by omega)]
    rw [ha]
  have hE : ∀ c ∈ nextOf (more ts day first) (ps.map (·.o)), (c.s, c.z) ∈ ends ts day ∧ 0 ≤ c.z ∧ c.z ≤ 200000000 ∧ c.p.length = n + 1 := by
    intro x hx
    unfold nextOf at hx
    obtain ⟨u, hu, hx⟩ := List.mem_flatMap.1 hx
    obtain ⟨y, hy, rfl⟩ := List.mem_map.1 hx
    obtain ⟨e1, t, ht, s, hs, d, q1, q2, q3, q4⟩ := more_end hok hy
    obtain ⟨k, hk, rfl⟩ := List.getElem_of_mem hs
    have q5 := Tn.tok_stop (hok t ht) k hk
    obtain ⟨p, hp, rfl⟩ := List.mem_map.1 hu
    have hl := (h.bd p hp).1
    exact ⟨e1, by show 0 ≤ y.z; omega, by show y.z ≤ 200000000; omega, by show (p.o.p ++ [y]).length = n + 1; simp [hl]⟩
  have hmem : ∀ c ∈ qs.map (·.o), c ∈ nextOf (more ts day first) (ps.map (·.o)) := by
    intro c hc
    rw [e] at hc
    rcases keepAll_mem hc with hc | hc
    · cases hc
    · exact hc
  have hu : Uniq (qs.map (·.o)) := by rw [e]; exact keepAll_uniq List.Pairwise.nil _
  refine ⟨by rw [e]; exact layer_next h.lay (more ts day first) hm, hu, ?_, fun p hp => ?_⟩
  · have := nodup_le ((qs.map (·.o)).map fun w => (w.s, w.z)) (ends ts day) (uniq_pairs hu) fun x hx => by
      obtain ⟨c, hc, rfl⟩ := List.mem_map.1 hx
      exact (hE c (hmem c hc)).1
    have h2 := ends_le (ts := ts) (day := day) hn fun t ht => (Tn.tok_len (hok t ht)).2
    simp only [List.length_map] at this
    omega
  · obtain ⟨-, b1, b2, b3⟩ := hE p.o (hmem p.o (List.mem_map.2 ⟨p, hp, rfl⟩))
    exact ⟨b3, b1, b2, fun h0 => by omega⟩

/-- What has been picked of the layers so far. -/
structure Pick (ts : List Tr) (day first fr to : Int) (n : Nat) (b : Option Pw) : Prop where
  picked : Picked (allH ts day) fr first to n (b.map (·.o))
  bd : ∀ p, b = some p → 1 ≤ p.o.p.length ∧ p.o.p.length ≤ 6 ∧ 0 ≤ p.o.z ∧ p.o.z ≤ 200000000

theorem pick_0 (ts : List Tr) (day first fr to : Int) : Pick ts day first fr to 0 none := ⟨picked_0 _ _ _ _, fun p hp => by cases hp⟩

theorem Pick.next {ts : List Tr} {day first fr to : Int} {n : Nat} {b : Option Pw} {ps : List Pw} (P : Pick ts day first fr to n b) (L : Lay ts day first fr (n + 1) ps) (hn : n < 6) : Pick ts day first fr to (n + 1) (ps.foldl (betterP to) b) := by
  refine ⟨by rw [foldP_o]; exact picked_next P.picked L.lay L.uniq, fun p hp => ?_⟩
  rcases foldP_mem to ps b p hp with h | h
  · exact P.bd p h
  · obtain ⟨b1, b2, b3, -⟩ := L.bd p h
    omega

/-- What Earliest tells: the best journey, or none. -/
def Told (ts : List Tr) (fr to day mi : Int) (rs : List Ri) (z : Int) (b : Bool) : Prop :=
  (b = true ∧ earB ts fr to day mi = true ∧ ∃ p, isBest (allH ts day) fr (1440 * day + mi) to p ∧ endY (1440 * day + mi) p = z + 3 ∧ rs = ridesOf p) ∨
  (b = false ∧ rs = [] ∧ z = 0 ∧ (earB ts fr to day mi = true → ∀ q, ¬ isTrip (allH ts day) fr (1440 * day + mi) to q))

/-- It is told in one way. -/
theorem told_one {ts : List Tr} {fr to day mi : Int} {rs rs' : List Ri} {z z' : Int} {b b' : Bool} (h : Told ts fr to day mi rs z b) (h' : Told ts fr to day mi rs' z' b') : rs = rs' ∧ z = z' ∧ b = b' := by
  rcases h with ⟨rfl, e, p, h1, h2, rfl⟩ | ⟨rfl, rfl, rfl, h1⟩
  · rcases h' with ⟨rfl, e', p', h1', h2', rfl⟩ | ⟨rfl, rfl, rfl, h1'⟩
    · obtain ⟨q1, q2⟩ := best_one h1 h1'
      exact ⟨q2, by omega, rfl⟩
    · exact absurd h1.1 (h1' e p)
  · rcases h' with ⟨rfl, e', p', h1', h2', rfl⟩ | ⟨rfl, rfl, rfl, h1'⟩
    · exact absurd h1'.1 (h1 e' p')
    · exact ⟨rfl, rfl, rfl⟩

theorem Pick.told {ts : List Tr} {day fr to mi : Int} {b : Option Pw} (P : Pick ts day (1440 * day + mi) fr to 6 b) (he : earB ts fr to day mi = true) : (b = none → Told ts fr to day mi [] 0 false) ∧ ∀ p, b = some p → Told ts fr to day mi (ridesOf p.o.p) p.o.z true := by
  obtain ⟨h1, h2⟩ := picked_best P.picked
  refine ⟨fun hb => Or.inr ⟨rfl, rfl, rfl, fun _ => h1 (by rw [hb]; rfl)⟩, fun p hb => ?_⟩
  obtain ⟨q1, q2⟩ := h2 p.o (by rw [hb]; rfl)
  exact Or.inl ⟨rfl, he, p.o.p, q1, q2, rfl⟩

end Rd
end Go.Proofs.YtaplbjoghkipdaaDoor
