/- What BaseCost and CheapWay answer, as mathematics: the best way, or none; it is one alone. -/
import Derived.Test.YtmhongcbgokiladMathDij
namespace Go.Proofs.Ytmhongcbgokilad
namespace Tf

def askB (l : List Ed) (a b : Int) : Bool := tarB l && (inB a 1 9999 && inB b 1 9999)

/-- The best way where one can be asked, or none. -/
def bw (l : List Ed) (a b : Int) : Option Wy → Prop
  | some m => askB l a b = true ∧ isBest l a b m
  | none => askB l a b = false ∨ ∀ x, isWay l a x → endW x ≠ b

theorem bw_one {l : List Ed} {a b : Int} {x y : Option Wy} (h1 : bw l a b x) (h2 : bw l a b y) : x = y := by
  cases x with
  | none =>
    cases y with
    | none => rfl
    | some m =>
      obtain ⟨h3, h4, h5, -⟩ := h2
      rcases h1 with h | h
      · rw [h] at h3; cases h3
      · exact (h m h4 h5).elim
  | some m =>
    cases y with
    | none =>
      obtain ⟨h3, h4, h5, -⟩ := h1
      rcases h2 with h | h
      · rw [h] at h3; cases h3
      · exact (h m h4 h5).elim
    | some n => rw [best_one h1.2 h2.2]

def cOf (x : Option Wy) : Int := match x with | some m => m.c | none => 0
def sOf (x : Option Wy) : List Int := match x with | some m => m.s | none => []

end Tf
end Go.Proofs.Ytmhongcbgokilad
