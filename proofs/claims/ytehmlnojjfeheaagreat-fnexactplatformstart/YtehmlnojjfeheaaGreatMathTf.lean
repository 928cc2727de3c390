/- Edges, and what ways over them cost, as mathematics: what the program's and the model's functions of chapter 7 answer. -/
import Derived.Test.YtehmlnojjfeheaaGreatTfEdges
namespace Go.Proofs.YtehmlnojjfeheaaGreat
namespace Tf

def inB (x a b : Int) : Bool := decide (a ≤ x) && decide (x ≤ b)

/-- An edge is right. -/
def edB (e : Ed) : Bool := inB e.ea 1 9999 && (inB e.eb 1 9999 && (!(e.ea == e.eb) && inB e.co 0 1000000))

/-- A tariff is right. -/
def tarB (l : List Ed) : Bool := decide (l.length ≤ 200) && l.all edB

theorem inB_is {x a b : Int} (h : inB x a b = true) : a ≤ x ∧ x ≤ b := by
  unfold inB at h
  simp at h
  exact h

theorem ed_is {e : Ed} (h : edB e = true) : 1 ≤ e.ea ∧ e.ea ≤ 9999 ∧ 1 ≤ e.eb ∧ e.eb ≤ 9999 ∧ e.ea ≠ e.eb ∧ 0 ≤ e.co ∧ e.co ≤ 1000000 := by
  unfold edB inB at h
  simp at h
  omega

theorem tar_is {l : List Ed} (h : tarB l = true) : l.length ≤ 200 ∧ ∀ e ∈ l, edB e = true := by
  unfold tarB at h
  simp at h
  exact h

/-- The other end of an edge of a station, or 0; whether the edge has the station. -/
def oth (e : Ed) (s : Int) : Int := if e.ea = s then e.eb else if e.eb = s then e.ea else 0
def hasS (e : Ed) (s : Int) : Bool := e.ea == s || e.eb == s

theorem oth_has {e : Ed} (h : edB e = true) (s b : Int) : (hasS e s && (oth e s == b)) = (!(b == 0) && (oth e s == b)) := by
  have := ed_is h
  unfold hasS oth
  by_cases h1 : e.ea = s
  · simp [h1]
    intro h2 h3
    omega
  · by_cases h2 : e.eb = s
    · simp [h1, h2]
      intro h2 h3
      omega
    · have e1 : (e.ea == s) = false := beq_eq_false_iff_ne.2 h1
      have e2 : (e.eb == s) = false := beq_eq_false_iff_ne.2 h2
      rw [if_neg h1, if_neg h2, e1, e2]
      by_cases hb : b = 0
      · subst hb; rfl
      · have e3 : ((0 : Int) == b) = false := beq_eq_false_iff_ne.2 (fun h => hb h.symm)
        simp [e3]

/-- The cheapest edge between two so far: -1 where there is none. -/
def leS (a b acc : Int) (e : Ed) : Int := if (hasS e a && (oth e a == b)) = true ∧ (acc = -1 ∨ e.co < acc) then e.co else acc
def leV (l : List Ed) (a b : Int) : Int := l.foldl (leS a b) (-1)

theorem leS_lo {a b acc : Int} {e : Ed} (h : edB e = true) (ha : -1 ≤ acc ∧ acc ≤ 1000000) : -1 ≤ leS a b acc e ∧ leS a b acc e ≤ 1000000 := by
  have := ed_is h
  unfold leS
  split <;> omega

theorem leF_lo {a b : Int} : ∀ (l : List Ed) (acc : Int), (∀ e ∈ l, edB e = true) → -1 ≤ acc ∧ acc ≤ 1000000 → -1 ≤ l.foldl (leS a b) acc ∧ l.foldl (leS a b) acc ≤ 1000000
  | [], _, _, h => h
  | e :: r, acc, he, h => leF_lo r _ (fun x hx => he x (by simp [hx])) (leS_lo (he e (by simp)) h)

theorem leV_lo (l : List Ed) (a b : Int) (h : ∀ e ∈ l, edB e = true) : -1 ≤ leV l a b ∧ leV l a b ≤ 1000000 := leF_lo l _ h ⟨by omega, by omega⟩

theorem leF_step (l : List Ed) (a b acc : Int) (k : Nat) (hk : k < l.length) : (l.drop k).foldl (leS a b) acc = (l.drop (k + 1)).foldl (leS a b) (leS a b acc l[k]) := by
  rw [List.drop_eq_getElem_cons hk, List.foldl_cons]

/-- What a way costs, of which so much has been paid. -/
def costF (l : List Ed) : Int → List Int → Int
  | s, a :: b :: r => if leV l a b = -1 then -1 else costF l (s + leV l a b) (b :: r)
  | s, _ => s

theorem costF_stop (l : List Ed) (s : Int) (z : List Int) (k : Nat) (hk : z.length ≤ k + 1) : costF l s (z.drop k) = s := by
  have h : (z.drop k).length ≤ 1 := by rw [List.length_drop]; omega
  match z.drop k, h with
  | [], _ => rfl
  | [_], _ => rfl

theorem costF_no (l : List Ed) (s : Int) (z : List Int) (k : Nat) (hk : k + 1 < z.length) (h : leV l z[k] z[k + 1] = -1) : costF l s (z.drop k) = -1 := by
  rw [List.drop_eq_getElem_cons (by omega), List.drop_eq_getElem_cons hk]
  simp [costF, h]

theorem costF_go (l : List Ed) (s : Int) (z : List Int) (k : Nat) (hk : k + 1 < z.length) (h : leV l z[k] z[k + 1] ≠ -1) : costF l s (z.drop k) = costF l (s + leV l z[k] z[k + 1]) (z.drop (k + 1)) := by
  rw [List.drop_eq_getElem_cons (by omega : k < z.length), List.drop_eq_getElem_cons hk]
  simp [costF, h]

def wayC (l : List Ed) (z : List Int) : Int := if tarB l = true ∧ z ≠ [] then costF l 0 z else -1

/-- How many of hundred parts are paid. -/
def rateV (c d : Int) : Int :=
  if c = 1 then (if d = 0 then 160 else if d = 1 then 120 else if d = 2 ∨ d = 3 then 80 else -1)
  else if c = 2 then (if d = 0 then 100 else if d = 1 then 75 else if d = 2 ∨ d = 3 then 50 else -1)
  else -1

/-- What is kept of a price. -/
def feeV (p d : Int) : Int :=
  if ¬ (0 ≤ p ∧ p ≤ 10000000) then -1 else if 8 ≤ d then 0 else if 1 ≤ d then (p + 3) / 4 else if d = 0 then (p + 1) / 2 else p

end Tf
end Go.Proofs.YtehmlnojjfeheaaGreat
