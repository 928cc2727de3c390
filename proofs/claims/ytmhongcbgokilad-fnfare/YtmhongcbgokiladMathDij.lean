/- The cheapest way, as mathematics: ways over edges, which of two is ahead, and what a search that goes out from the first of its open ways comes to. -/
import Derived.Test.YtmhongcbgokiladMathTf
namespace Go.Proofs.Ytmhongcbgokilad
namespace Tf

/-- A way: what it costs, and its stations. -/
structure Wy where
  c : Int
  s : List Int

theorem Wy.ext' {x y : Wy} (h1 : x.c = y.c) (h2 : x.s = y.s) : x = y := by cases x; cases y; simp_all

def endW (w : Wy) : Int := w.s.getLastD 0
/-- A way with one edge more. -/
def ovr (w : Wy) (co n : Int) : Wy := ⟨w.c + co, w.s ++ [n]⟩

theorem end_ovr (w : Wy) (co n : Int) : endW (ovr w co n) = n := by simp [endW, ovr]

/-- Lists of numbers compared one by one. -/
def lexL : List Int → List Int → Bool
  | [], [] => false
  | [], _ :: _ => true
  | _ :: _, [] => false
  | a :: r, b :: t => decide (a < b) || (decide (a = b) && lexL r t)

theorem lex_irr : ∀ l : List Int, lexL l l = false
  | [] => rfl
  | a :: r => by simp [lexL, lex_irr r]

theorem lex_trans : ∀ {a b c : List Int}, lexL a b = true → lexL b c = true → lexL a c = true
  | [], [], c, h, _ => by simp [lexL] at h
  | [], _ :: _, [], _, h => by simp [lexL] at h
  | [], _ :: _, _ :: _, _, _ => rfl
  | _ :: _, [], _, h, _ => by simp [lexL] at h
  | _ :: _, _ :: _, [], _, h => by simp [lexL] at h
  | x :: a, y :: b, z :: c, h1, h2 => by
    simp [lexL] at h1 h2 ⊢
    rcases h1 with h1 | ⟨h1, h1'⟩ <;> rcases h2 with h2 | ⟨h2, h2'⟩
    · left; omega
    · left; omega
    · left; omega
    · right; exact ⟨by omega, lex_trans h1' h2'⟩

theorem lex_tot : ∀ {a b : List Int}, lexL a b = false → lexL b a = false → a = b
  | [], [], _, _ => rfl
  | [], _ :: _, h, _ => by simp [lexL] at h
  | _ :: _, [], _, h => by simp [lexL] at h
  | x :: a, y :: b, h1, h2 => by
    simp [lexL] at h1 h2
    have e : x = y := by omega
    subst e
    rw [lex_tot (h1.2 rfl) (h2.2 rfl)]

theorem lex_snoc : ∀ {a b : List Int} (n : Int), a.length = b.length → lexL (a ++ [n]) (b ++ [n]) = lexL a b
  | [], [], n, _ => by simp [lexL]
  | x :: a, y :: b, n, h => by
    simp only [List.cons_append, lexL]
    rw [lex_snoc n (by simpa using h)]

/-- Whether a way is ahead of another: cheaper, or with fewer stations, or coming first. -/
def ahead (x y : Wy) : Bool := lexL (x.c :: (x.s.length : Int) :: x.s) (y.c :: (y.s.length : Int) :: y.s)

def le (x y : Wy) : Prop := ahead y x = false

theorem ahead_irr (x : Wy) : ahead x x = false := lex_irr _
theorem le_refl (x : Wy) : le x x := ahead_irr x
theorem ahead_trans {x y z : Wy} (h1 : ahead x y = true) (h2 : ahead y z = true) : ahead x z = true := lex_trans h1 h2
theorem le_of_ahead {x y : Wy} (h : ahead x y = true) : le x y := by
  unfold le
  cases e : ahead y x
  · rfl
  · have := ahead_trans h e
    rw [ahead_irr] at this
    cases this
theorem le_anti {x y : Wy} (h1 : le x y) (h2 : le y x) : x = y := by
  have := lex_tot h2 h1
  simp at this
  exact Wy.ext' this.1 this.2.2
theorem le_total (x y : Wy) : le x y ∨ le y x := by
  cases e : ahead y x
  · exact Or.inl e
  · exact Or.inr (le_of_ahead e)
theorem le_trans {x y z : Wy} (h1 : le x y) (h2 : le y z) : le x z := by
  unfold le
  cases e : ahead z x
  · rfl
  · cases e2 : ahead y x
    · cases e3 : ahead x y
      · have : x = y := le_anti e2 e3
        subst this
        unfold le at h2
        rw [e] at h2
        cases h2
      · have h4 := ahead_trans e e3
        unfold le at h2
        rw [h4] at h2
        cases h2
    · unfold le at h1
      rw [e2] at h1
      cases h1

theorem ahead_ovr (x y : Wy) (co n : Int) : ahead (ovr x co n) (ovr y co n) = ahead x y := by
  unfold ahead ovr
  simp only [lexL, List.length_append, List.length_cons, List.length_nil]
  by_cases h : x.s.length = y.s.length
  · rw [lex_snoc n h]
    have e1 : decide (x.c + co < y.c + co) = decide (x.c < y.c) := by simp
    have e2 : decide (x.c + co = y.c + co) = decide (x.c = y.c) := by simp
    rw [e1, e2, h]
    simp
  · have e0 : decide (((x.s.length : Nat) : Int) = (y.s.length : Int)) = false := by simp; omega
    have e3 : decide (((x.s.length + (0 + 1) : Nat) : Int) = ((y.s.length + (0 + 1) : Nat) : Int)) = false := by simp; omega
    have e1 : decide (x.c + co < y.c + co) = decide (x.c < y.c) := by simp
    have e2 : decide (x.c + co = y.c + co) = decide (x.c = y.c) := by simp
    have e4 : decide (((x.s.length + (0 + 1) : Nat) : Int) < ((y.s.length + (0 + 1) : Nat) : Int)) = decide (((x.s.length : Nat) : Int) < (y.s.length : Int)) := by
      by_cases h' : x.s.length < y.s.length
      · rw [decide_eq_true (by omega), decide_eq_true (by omega)]
      · rw [decide_eq_false (by omega), decide_eq_false (by omega)]
    rw [e0, e1, e2, e3, e4]
    simp

theorem le_ovr {x y : Wy} (h : le x y) (co n : Int) : le (ovr x co n) (ovr y co n) := by
  unfold le
  rw [ahead_ovr]
  exact h

theorem le_more (x : Wy) (co n : Int) (h : 0 ≤ co) : le x (ovr x co n) := by
  apply le_of_ahead
  unfold ahead ovr
  simp [lexL]
  omega

/-- The ways out of a over edges of E. -/
inductive isWay (E : List Ed) (a : Int) : Wy → Prop
  | nil : isWay E a ⟨0, [a]⟩
  | step {w : Wy} {e : Ed} : isWay E a w → e ∈ E → hasS e (endW w) = true → isWay E a (ovr w e.co (oth e (endW w)))

/-- The best way out of a to s. -/
def isBest (E : List Ed) (a s : Int) (g : Wy) : Prop := isWay E a g ∧ endW g = s ∧ ∀ w, isWay E a w → endW w = s → le g w

theorem best_one {E : List Ed} {a s : Int} {g h : Wy} (h1 : isBest E a s g) (h2 : isBest E a s h) : g = h :=
  le_anti (h1.2.2 h h2.1 h2.2.1) (h2.2.2 g h1.1 h1.2.1)

/-- A search: G the stations that it has gone on from, with their ways; O its open ways. -/
structure Inv (E : List Ed) (a : Int) (G : Int → Option Wy) (O : Wy → Prop) : Prop where
  ways : ∀ o, O o → isWay E a o
  best : ∀ s g, G s = some g → isBest E a s g
  edge : ∀ s g e, G s = some g → e ∈ E → hasS e s = true → (G (oth e s)).isSome = true ∨ ∃ o, O o ∧ endW o = oth e s ∧ le o (ovr g e.co (oth e s))
  start : (G a).isSome = true ∨ ∃ o, O o ∧ endW o = a ∧ le o ⟨0, [a]⟩

theorem inv_start (E : List Ed) (a : Int) (O : Wy → Prop) (h : ∀ o, O o ↔ o = ⟨0, [a]⟩) : Inv E a (fun _ => none) O where
  ways := fun o ho => by rw [(h o).1 ho]; exact isWay.nil
  best := fun s g hg => by cases hg
  edge := fun s g e hg => by cases hg
  start := Or.inr ⟨_, (h _).2 rfl, by simp [endW], le_refl _⟩

/-- Each way is behind an open one, or ends where the search has been. -/
theorem Inv.cover {E : List Ed} {a : Int} {G : Int → Option Wy} {O : Wy → Prop} (I : Inv E a G O) (hE : ∀ e ∈ E, edB e = true) {w : Wy} (hw : isWay E a w) :
    (G (endW w)).isSome = true ∨ ∃ o, O o ∧ G (endW o) = none ∧ le o w := by
  induction hw with
  | nil =>
    have e : endW ⟨0, [a]⟩ = a := by simp [endW]
    rw [e]
    rcases I.start with h | ⟨o, h1, h2, h3⟩
    · exact Or.inl h
    · cases hg : G a
      · exact Or.inr ⟨o, h1, by rw [h2]; exact hg, h3⟩
      · exact Or.inl rfl
  | @step w e hw he hs ih =>
    rw [end_ovr]
    have hc : 0 ≤ e.co := (ed_is (hE e he)).2.2.2.2.2.1
    rcases ih with h | ⟨o, h1, h2, h3⟩
    · obtain ⟨g, hg⟩ := Option.isSome_iff_exists.1 h
      have hb := I.best _ _ hg
      have hle := hb.2.2 w hw rfl
      rcases I.edge _ g e hg he hs with h | ⟨o, h1, h2, h3⟩
      · exact Or.inl h
      · cases hg2 : G (oth e (endW w))
        · exact Or.inr ⟨o, h1, by rw [h2]; exact hg2, le_trans h3 (le_ovr hle _ _)⟩
        · exact Or.inl rfl
    · exact Or.inr ⟨o, h1, h2, le_trans h3 (le_more _ _ _ hc)⟩

/-- The first of the open ways is the best one to where it ends. -/
theorem Inv.pop {E : List Ed} {a : Int} {G : Int → Option Wy} {O : Wy → Prop} (I : Inv E a G O) (hE : ∀ e ∈ E, edB e = true) {m : Wy} (hm : O m) (hG : G (endW m) = none) (hmin : ∀ o, O o → le m o) : isBest E a (endW m) m := by
  refine ⟨I.ways m hm, rfl, fun w hw he => ?_⟩
  rcases I.cover hE hw with h | ⟨o, h1, -, h3⟩
  · rw [he, hG] at h
    cases h
  · exact le_trans (hmin o h1) h3

/-- With nothing open there is no way to where the search has not been. -/
theorem Inv.none {E : List Ed} {a b : Int} {G : Int → Option Wy} {O : Wy → Prop} (I : Inv E a G O) (hE : ∀ e ∈ E, edB e = true) (hO : ∀ o, ¬ O o) (hb : G b = none) : ∀ w, isWay E a w → endW w ≠ b := by
  intro w hw he
  rcases I.cover hE hw with h | ⟨o, h1, -, -⟩
  · rw [he, hb] at h
    cases h
  · exact hO o h1

def setG (G : Int → Option Wy) (s : Int) (m : Wy) : Int → Option Wy := fun k => if k = s then some m else G k

theorem setG_same (G : Int → Option Wy) (s : Int) (m : Wy) : setG G s m s = some m := by simp [setG]
theorem setG_other (G : Int → Option Wy) {s k : Int} (m : Wy) (h : k ≠ s) : setG G s m k = G k := by simp [setG, h]
theorem setG_some (G : Int → Option Wy) (s : Int) (m : Wy) {k : Int} (h : (G k).isSome = true) : (setG G s m k).isSome = true := by
  unfold setG
  split
  · rfl
  · exact h

/-- The search goes on from m. -/
theorem Inv.next {E : List Ed} {a : Int} {G : Int → Option Wy} {O O' : Wy → Prop} (I : Inv E a G O) {m : Wy} (hb : isBest E a (endW m) m)
    (h1 : ∀ o, O' o → isWay E a o) (h2 : ∀ o, O o → (setG G (endW m) m (endW o)).isSome = true ∨ ∃ o', O' o' ∧ endW o' = endW o ∧ le o' o)
    (h3 : ∀ e ∈ E, hasS e (endW m) = true → (setG G (endW m) m (oth e (endW m))).isSome = true ∨ ∃ o', O' o' ∧ endW o' = oth e (endW m) ∧ le o' (ovr m e.co (oth e (endW m)))) :
    Inv E a (setG G (endW m) m) O' where
  ways := h1
  best := fun s g hg => by
    by_cases e : s = endW m
    · subst e
      rw [setG_same] at hg
      cases hg
      exact hb
    · rw [setG_other G m e] at hg
      exact I.best s g hg
  edge := fun s g e hg he hs => by
    by_cases e1 : s = endW m
    · subst e1
      rw [setG_same] at hg
      cases hg
      exact h3 e he hs
    · rw [setG_other G m e1] at hg
      rcases I.edge s g e hg he hs with h | ⟨o, k1, k2, k3⟩
      · exact Or.inl (setG_some G _ m h)
      · rcases h2 o k1 with h | ⟨o', j1, j2, j3⟩
        · exact Or.inl (by rw [← k2]; exact h)
        · exact Or.inr ⟨o', j1, by rw [j2, k2], le_trans j3 k3⟩
  start := by
    rcases I.start with h | ⟨o, k1, k2, k3⟩
    · exact Or.inl (setG_some G _ m h)
    · rcases h2 o k1 with h | ⟨o', j1, j2, j3⟩
      · exact Or.inl (by rw [← k2]; exact h)
      · exact Or.inr ⟨o', j1, by rw [j2, k2], le_trans j3 k3⟩

/-- A way that ends where the search has been is left. -/
theorem Inv.skip {E : List Ed} {a : Int} {G : Int → Option Wy} {O O' : Wy → Prop} (I : Inv E a G O) (h1 : ∀ o, O' o → O o) (h2 : ∀ o, O o → (G (endW o)).isSome = true ∨ O' o) : Inv E a G O' where
  ways := fun o h => I.ways o (h1 o h)
  best := I.best
  edge := fun s g e hg he hs => by
    rcases I.edge s g e hg he hs with h | ⟨o, k1, k2, k3⟩
    · exact Or.inl h
    · rcases h2 o k1 with h | h
      · exact Or.inl (by rw [← k2]; exact h)
      · exact Or.inr ⟨o, h, k2, k3⟩
  start := by
    rcases I.start with h | ⟨o, k1, k2, k3⟩
    · exact Or.inl h
    · rcases h2 o k1 with h | h
      · exact Or.inl (by rw [← k2]; exact h)
      · exact Or.inr ⟨o, h, k2, k3⟩

/-- The stations that there are. -/
def stn (E : List Ed) (a : Int) : List Int := a :: E.flatMap fun e => [e.ea, e.eb]

theorem stn_length (E : List Ed) (a : Int) : (stn E a).length = 2 * E.length + 1 := by
  unfold stn
  rw [List.length_cons]
  congr 1
  induction E with
  | nil => rfl
  | cons e r ih => simp at ih ⊢; omega

theorem way_end {E : List Ed} {a : Int} {w : Wy} (h : isWay E a w) : endW w ∈ stn E a := by
  cases h with
  | nil => simp [endW, stn]
  | @step w e hw he hs =>
    rw [end_ovr]
    refine List.mem_cons_of_mem _ (List.mem_flatMap.2 ⟨e, he, ?_⟩)
    unfold hasS at hs
    unfold oth
    by_cases h1 : e.ea = endW w
    · simp [h1]
    · by_cases h2 : e.eb = endW w
      · simp [h1, h2]
      · simp [h1, h2] at hs

theorem way_ok {E : List Ed} {a : Int} (ha : 1 ≤ a ∧ a ≤ 9999) (hE : ∀ e ∈ E, edB e = true) {w : Wy} (h : isWay E a w) : 1 ≤ endW w ∧ endW w ≤ 9999 := by
  have := way_end h
  unfold stn at this
  rcases List.mem_cons.1 this with h | h
  · rw [h]; exact ha
  · obtain ⟨e, he, hm⟩ := List.mem_flatMap.1 h
    have := ed_is (hE e he)
    simp at hm
    rcases hm with h | h <;> rw [h] <;> omega

theorem way_ne {E : List Ed} {a : Int} {w : Wy} (h : isWay E a w) : 0 < w.s.length := by
  cases h with
  | nil => simp
  | step => simp [ovr]

/-- How many stations the search has not gone on from. -/
def lft (U : List Int) (G : Int → Option Wy) : Nat := (U.filter fun s => (G s).isNone).length

theorem lft_le (U : List Int) (G : Int → Option Wy) : lft U G ≤ U.length := List.length_filter_le _ _

theorem lft_set : ∀ (U : List Int) (G : Int → Option Wy) (s : Int) (m : Wy), s ∈ U → G s = none → lft U (setG G s m) < lft U G := by
  have mono : ∀ (U : List Int) (G : Int → Option Wy) (s : Int) (m : Wy), lft U (setG G s m) ≤ lft U G := by
    intro U G s m
    unfold lft
    induction U with
    | nil => simp
    | cons x r ih =>
      by_cases e : x = s
      · subst e
        rw [List.filter_cons_of_neg (by simp [setG])]
        rw [List.filter_cons]
        split
        · simp; omega
        · exact ih
      · simp only [List.filter_cons, setG_other G m e]
        split
        · simp; exact ih
        · exact ih
  intro U G s m hs hg
  induction U with
  | nil => simp at hs
  | cons x r ih =>
    by_cases e : x = s
    · subst e
      have h1 := mono r G x m
      unfold lft at h1 ⊢
      rw [List.filter_cons_of_neg (by simp [setG]), List.filter_cons_of_pos (by simp [hg])]
      simp
      omega
    · have h2 := ih ((List.mem_cons.1 hs).resolve_left fun h => e h.symm)
      unfold lft at h2 ⊢
      simp only [List.filter_cons, setG_other G m e]
      split
      · simp; exact h2
      · exact h2

end Tf
end Go.Proofs.Ytmhongcbgokilad
